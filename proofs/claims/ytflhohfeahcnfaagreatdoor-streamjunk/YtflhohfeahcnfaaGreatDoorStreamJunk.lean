/- Proved: of 19 to 1000 bytes that do not begin with ff, fed to a new stream, Next tells the Note (1, 1) and no message, and tells it again when up to 1000 more were fed, and all of them still wait; for other inputs the document's sample holds (a KEEPALIVE fed in two pieces comes when the second is there); nothing that was there is changed; the tables 'said' of attr and msg stand as the program's text lays them (the card ties them). -/
import Derived.Test.YtflhohfeahcnfaaGreatDoorCdStreamJunk
import Derived.Test.YtflhohfeahcnfaaGreatDoorWStreamJunk
namespace Go.Proofs.YtflhohfeahcnfaaGreatDoor
open Go.RowKit
set_option maxRecDepth 100000

theorem streamJunk_card : Rows.StreamJunkCardSaid := streamJunk_carded fun b0 c0 bs0 b1 c1 bs1 W hS _ h0 _ h1 => streamJunk_walk b0 b1 c0 c1 bs0 bs1 W hS h0 h1
end Go.Proofs.YtflhohfeahcnfaaGreatDoor
