/- Proved: Encode of a NOTIFICATION with 4000 to 4199 bytes of Data answers bytes just where they are at most MaxMsg, and then so many as there are; for every number; nothing that was there is changed; the tables 'said' of attr and msg stand as the program's text lays them (the card ties them). -/
import Derived.Test.YtcbonpofbmogjaaGreatDoorCdMsgLimits
import Derived.Test.YtcbonpofbmogjaaGreatDoorWMsgLimits
namespace Go.Proofs.YtcbonpofbmogjaaGreatDoor
theorem msgLimits_card : Rows.MsgLimitsCardSaid := msgLimits_carded msgLimits_walk
end Go.Proofs.YtcbonpofbmogjaaGreatDoor
