/- Proved: for all attributes, flags and 'more', where the attributes are small (path's parts and numbers, communities, Raws and their bytes together under 3000) and good: with other flags at ORIGIN Decode answers no Note if they fit, else Sub 4 with the whole of it; with a longer ORIGIN Sub 5 with the whole of it; for every input the document's sample holds; nothing that was there is changed; the table 'said' stands as the program's text lays it (the card ties it). -/
import Derived.Test.YtempaadgheondaaDoorCdAttrFlags
import Derived.Test.YtempaadgheondaaDoorWAttrFlags
namespace Go.Proofs.YtempaadgheondaaDoor
theorem attrFlags_card : Rows.AttrFlagsCardSaid := attrFlags_carded attrFlags_walk
end Go.Proofs.YtempaadgheondaaDoor
