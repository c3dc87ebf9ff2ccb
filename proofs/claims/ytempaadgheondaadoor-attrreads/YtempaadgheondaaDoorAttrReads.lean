/- Proved: for every row of bytes: of up to 5000 bytes Decode and the document's own reader answer the same note and the same attributes, and what is read without a note is good; for longer ones, and besides, every input of the document's sample holds; nothing that was there is changed; the table 'said' stands as the program's text lays it (the card ties it). -/
import Derived.Test.YtempaadgheondaaDoorCdAttrReads
import Derived.Test.YtempaadgheondaaDoorWAttrReads
namespace Go.Proofs.YtempaadgheondaaDoor
theorem attrReads_card : Rows.AttrReadsCardSaid := attrReads_carded attrReads_walk
end Go.Proofs.YtempaadgheondaaDoor
