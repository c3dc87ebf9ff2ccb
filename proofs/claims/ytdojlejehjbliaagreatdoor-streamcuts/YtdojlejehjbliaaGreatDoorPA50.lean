/- Proved: for every row of up to 8000 bytes and every row of up to 300 cuts: fed to a new stream in pieces cut so, and read as far as it goes behind each piece, the messages that come are those that the document's ReadMessage reads of what has come, one behind the other, up to the first that is wrong, whose Note comes again; what is left is what was fed and not taken; for longer rows the document's sample holds; nothing that was there is changed; the tables 'said' of attr and msg stand as the program's text lays them (the card ties them). -/
import Derived.Test.YtdojlejehjbliaaGreatDoorPA49
namespace Go.Proofs.YtdojlejehjbliaaGreatDoor
open Go.RowKit
set_option maxRecDepth 100000
theorem streamCuts_card:Rows.StreamCutsCardSaid:=Qie fun b0 c0 bs0 b1 c1 bs1 W hS hA hc0 hd0 _ hd1=>Qjq b0 c0 bs0 b1 c1 bs1 W hS hA hc0 hd0 hd1
end Go.Proofs.YtdojlejehjbliaaGreatDoor
