/- Proved: of 1 to 100 bytes of Data: a NOTIFICATION with it, fed twice to a new stream, comes twice with that very Data, though the bytes that were handed in are all changed behind Feed, and the first answer's Data is changed ahead of the second Next; a stream that is none takes nothing and tells nothing; for other inputs the document's sample holds; nothing that was there is changed; the tables 'said' of attr and msg stand as the program's text lays them (the card ties them). -/
import Derived.Test.YtflhohfeahcnfaaGreatDoorCdStreamOwn
import Derived.Test.YtflhohfeahcnfaaGreatDoorWStreamOwn
namespace Go.Proofs.YtflhohfeahcnfaaGreatDoor
open Go.RowKit
set_option maxRecDepth 100000

theorem streamOwn_card : Rows.StreamOwnCardSaid := streamOwn_carded fun b0 c0 bs0 W hS _ h0 => streamOwn_walk b0 c0 bs0 W hS h0
end Go.Proofs.YtflhohfeahcnfaaGreatDoor
