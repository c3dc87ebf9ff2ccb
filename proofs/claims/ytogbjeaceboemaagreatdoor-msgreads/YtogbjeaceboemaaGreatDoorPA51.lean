/- Proved: of any bytes up to 5000 the program's Decode answers the very message, or the very same Note, that the document's own reading does (of more than 5000 only the sample is asked), for every slice of bytes; nothing that was there is changed; no condition. -/
import Derived.Test.YtogbjeaceboemaaGreatDoorPA7
import Derived.Test.YtogbjeaceboemaaGreatDoorPA50
namespace Go.Proofs.YtogbjeaceboemaaGreatDoor
open Go.RowKit
set_option maxRecDepth 100000
theorem msgReads_card:Rows.MsgReadsCardSaid:=msgReads_carded msgReads_walk
end Go.Proofs.YtogbjeaceboemaaGreatDoor
