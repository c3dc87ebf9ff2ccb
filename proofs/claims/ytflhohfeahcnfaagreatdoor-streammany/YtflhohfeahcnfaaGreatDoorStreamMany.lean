/- Proved: for every list of up to 60 kinds: as many KEEPALIVEs and NOTIFICATIONs, fed one behind the other to a new stream, come one by one, each as it was, and then nothing more comes and nothing is left; for longer lists the document's sample holds; nothing that was there is changed; the tables 'said' of attr and msg stand as the program's text lays them (the card ties them). -/
import Derived.Test.YtflhohfeahcnfaaGreatDoorCdStreamMany
import Derived.Test.YtflhohfeahcnfaaGreatDoorWStreamMany
namespace Go.Proofs.YtflhohfeahcnfaaGreatDoor
open Go.RowKit
set_option maxRecDepth 100000

theorem streamMany_card : Rows.StreamManyCardSaid := streamMany_carded fun b0 c0 bs0 W hS _ h0 => streamMany_walk b0 c0 bs0 W hS h0
end Go.Proofs.YtflhohfeahcnfaaGreatDoor
