/- Proved: for all attributes and every 'lack', where the attributes are small (path's parts and numbers, communities, Raws and their bytes together under 3000) and good: of their bytes without those of ORIGIN, AS_PATH and NEXT_HOP that lack, Decode answers no Note if none lacks, else Sub 3 with the least type that lacks; for every input the document's sample holds; nothing that was there is changed; the table 'said' stands as the program's text lays it (the card ties it). -/
import Derived.Test.YtempaadgheondaaDoorCdAttrMissing
import Derived.Test.YtempaadgheondaaDoorWAttrMissing
namespace Go.Proofs.YtempaadgheondaaDoor
theorem attrMissing_card : Rows.AttrMissingCardSaid := attrMissing_carded attrMissing_walk
end Go.Proofs.YtempaadgheondaaDoor
