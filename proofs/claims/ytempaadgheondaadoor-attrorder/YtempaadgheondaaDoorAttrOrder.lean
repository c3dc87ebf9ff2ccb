/- Proved: for all attributes and every 'turn', where the attributes are small (path's parts and numbers, communities, Raws and their bytes together under 3000) and good: of their bytes, the attributes turned about, Decode answers the same ones; with one of them twice it answers a Note of Sub 1 without Data; for every input the document's sample holds; nothing that was there is changed; the table 'said' stands as the program's text lays it (the card ties it). -/
import Derived.Test.YtempaadgheondaaDoorCdAttrOrder
import Derived.Test.YtempaadgheondaaDoorHOg
namespace Go.Proofs.YtempaadgheondaaDoor
theorem attrOrder_card : Rows.AttrOrderCardSaid := attrOrder_carded attrOrder_walk
end Go.Proofs.YtempaadgheondaaDoor
