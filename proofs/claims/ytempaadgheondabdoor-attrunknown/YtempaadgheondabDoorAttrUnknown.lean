/- Proved: for all attributes without Raws, every type of 9 and more, all flags and every data of up to 200 bytes, where the attributes are small (path's parts and numbers, communities, Raws and their bytes together under 3000) and good: with such an attribute ahead of their bytes Decode answers a Note of Sub 2 with the whole of it, if it is not optional; else the same attributes, with a Raw of it, marked, if it is transitive; for every input the document's sample holds; nothing that was there is changed; the table 'said' stands as the program's text lays it (the card ties it). -/
import Derived.Test.YtempaadgheondabDoorCdAttrUnknown
import Derived.Test.YtempaadgheondabDoorHUn
namespace Go.Proofs.YtempaadgheondabDoor
theorem attrUnknown_card : Rows.AttrUnknownCardSaid := attrUnknown_carded attrUnknown_walk
end Go.Proofs.YtempaadgheondabDoor
