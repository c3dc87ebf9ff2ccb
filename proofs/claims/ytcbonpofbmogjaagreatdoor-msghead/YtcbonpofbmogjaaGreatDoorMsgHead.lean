/- Proved: of any bytes up to 5000 the program's Head answers as many bytes, or the very same Note, as the document's does (of more than 5000 only the sample is asked), for every slice of bytes; nothing that was there is changed; no condition. -/
import Derived.Test.YtcbonpofbmogjaaGreatDoorCdMsgHead
import Derived.Test.YtcbonpofbmogjaaGreatDoorWMsgHead
namespace Go.Proofs.YtcbonpofbmogjaaGreatDoor
open Go.RowKit
set_option maxRecDepth 100000

theorem msgHead_card : Rows.MsgHeadCardSaid := msgHead_carded msgHead_walk
end Go.Proofs.YtcbonpofbmogjaaGreatDoor
