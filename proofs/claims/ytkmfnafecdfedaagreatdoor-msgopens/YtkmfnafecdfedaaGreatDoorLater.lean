/- A region that draws its order, whose calls may make memory of their own: one walk, in the class of the worlds in which all that was there stands. -/
import Derived.Test.YtkmfnafecdfedaaGreatDoorHMb
import Derived.BigQuiet
namespace Go.Proofs.YtkmfnafecdfedaaGreatDoor
open Go.RowKit
set_option maxRecDepth 100000

/-- A world in which all that was in w0 stands. -/
structure Later (w0 : World) where
  w : World
  h : Below w0.heap.size w0 w
/-- To be laid ahead of the walk, at the region's own world ('have := later_some w5'). -/
theorem later_some (w0 : World) : Nonempty (Later w0) := ⟨⟨w0, Below.refl _ _⟩⟩
theorem region_later {P : Program} {id : Nat} {Q : Exit → Act → World → Prop} {a : Act} {w : World} {l : List Oper} (hm : P.follows .mixedOrders = true) (hB : Region.lexB .any l.toArray = true)
    (h : wpQuiet P l.toArray (fun w' => ∃ x : Later w, w' = x.w) (fun a' => ∀ w', (∃ x : Later w, w' = x.w) → Q .normal a' w') l a) : (Code.region id l.toArray true).wp P Q a w :=
  wp_region_quiet (C := fun w' => ∃ x : Later w, w' = x.w) hm hB ⟨⟨{ w with drawn := w.drawn + 1 }, ⟨rfl, rfl, rfl, Nat.le_refl _, fun _ _ => rfl⟩⟩, rfl⟩ (by simpa using h)
/-- A callee that makes memory of its own alone. -/
theorem calls_later {P : Program} {f : FuncId} {args : Array Value} {w0 : World} {v : Value} (x : Later w0) (h : Calls P f args x.w fun e w' => e = .returned v ∧ Below x.w.heap.size x.w w') : Calls P f args x.w fun e w' => e = .returned v ∧ ∃ y : Later w0, w' = y.w :=
  h.mono fun _ w' ⟨he, hb⟩ => ⟨he, ⟨w', x.h.trans ⟨hb.os, hb.tape, hb.output, hb.size, fun k hk => hb.block k (Nat.lt_of_lt_of_le hk x.h.size)⟩⟩, rfl⟩
/-- A callee that leaves the world alone. -/
theorem calls_same {P : Program} {f : FuncId} {args : Array Value} {w0 : World} {v : Value} (x : Later w0) (h : Calls P f args x.w fun e w' => e = .returned v ∧ w' = x.w) : Calls P f args x.w fun e w' => e = .returned v ∧ ∃ y : Later w0, w' = y.w :=
  h.mono fun _ _ ⟨he, hw⟩ => ⟨he, x, hw⟩
/-- A callee that only draws. -/
theorem calls_drew {P : Program} {f : FuncId} {args : Array Value} {w0 : World} {v : Value} (x : Later w0) (h : Calls P f args x.w fun e w' => e = .returned v ∧ ∃ k, w' = x.w.drewN k) : Calls P f args x.w fun e w' => e = .returned v ∧ ∃ y : Later w0, w' = y.w :=
  h.mono fun _ _ ⟨he, k, hw⟩ => ⟨he, ⟨x.w.drewN k, x.h.trans ⟨rfl, rfl, rfl, Nat.le_refl _, fun _ _ => rfl⟩⟩, hw⟩
theorem Later.cell {w0 : World} (x : Later w0) {a : Addr} {v : Value} (h : w0.cell? a = some v) : x.w.cell? a = some v := by
  rw [World.cell?_of_block (w := w0) (x.h.block _ (World.block_lt_of_cell? w0 _ h))]
  exact h
end Go.Proofs.YtkmfnafecdfedaaGreatDoor
