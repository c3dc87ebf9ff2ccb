/- Proved: of 19 to 5000 bytes whose first sixteen have another byte than ff, Head and Decode both tell the Note (1, 1) without Data; for every input; nothing that was there is changed; the tables 'said' of attr and msg stand as the program's text lays them (the card ties them). -/
import Derived.Test.YtcbonpofbmogjaaGreatDoorCdMsgMarker
import Derived.Test.YtcbonpofbmogjaaGreatDoorWMsgMarker
namespace Go.Proofs.YtcbonpofbmogjaaGreatDoor
theorem msgMarker_card : Rows.MsgMarkerCardSaid := msgMarker_carded msgMarker_walk
end Go.Proofs.YtcbonpofbmogjaaGreatDoor
