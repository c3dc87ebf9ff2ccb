/- Proved: for every OPEN whose capabilities tell a number of four bytes and that has bytes (its AS being that number): with its version turned Decode answers (2, 1) with 0 4, unless it is 4; with its AS turned (2, 2), unless it is that number or 23456, and not 0; with the length of its parameters turned (2, 0); for others the document's sample holds; nothing that was there is changed; the tables 'said' of attr and msg stand as the program's text lays them (the card ties them). -/
import Derived.Test.YtkmfnafecdfedaaGreatDoorCdMsgOpens
import Derived.Test.YtkmfnafecdfedaaGreatDoorWMsgOpens
namespace Go.Proofs.YtkmfnafecdfedaaGreatDoor
open Go.RowKit
set_option maxRecDepth 100000

theorem msgOpens_card : Rows.MsgOpensCardSaid := msgOpens_carded fun a h i c z1 z2 W hS hi w1 w2 => msgOpens_walk a h i c z1 z2 W hS hi w1 w2
end Go.Proofs.YtkmfnafecdfedaaGreatDoor
