/- Make, of the program and of the document. -/
import Derived.Test.YthigjonagbfbbaaDoorKAa
import Derived.Test.YthigjonagbfbbaaDoorKAc
import Derived.Laws.BitsAllLaws
import Derived.Deep.QuietTactic
import Derived.BigQuiet
import Derived.Deep.RegionWith
namespace Go.Proofs.YthigjonagbfbbaaDoor
open Go.RowKit
set_option maxRecDepth 100000

/-- A/L as a value. -/
def pfx (A : Nat) (L : Int) : Value := .agg #[.int .u32 (A : Int), .int .i64 L]

theorem mask_val (n : Nat) : (4294967295 * 2 ^ (32 - n) % 4294967296 : Int) = ((maskOf n : Nat) : Int) := by
  have h1 := pow_le32 n
  have h0 := Nat.two_pow_pos (32 - n)
  have e : (2 : Int) ^ (32 - n) = ((2 ^ (32 - n) : Nat) : Int) := by simp
  rw [e]
  unfold maskOf
  generalize 2 ^ (32 - n) = m at *
  omega
theorem bit_val (A i : Nat) : ((A : Int) / 2 ^ (31 - i)).tmod 2 = ((bitAt A i : Nat) : Int) := by
  unfold bitAt
  have e : (A : Int) / 2 ^ (31 - i) = ((A / 2 ^ (31 - i) : Nat) : Int) := by simp
  rw [e, Int.tmod_eq_emod_of_nonneg (Int.natCast_nonneg _)]
  omega
theorem and_val (A n : Nat) (h : A < 4294967296) (hn : n ≤ 32) : bits .and .u32 (A : Int) (maskOf n : Int) = ((cutTo A n : Nat) : Int) := by
  rw [u32_and_nat A (maskOf n) h (maskOf_lt n), and_mask A n h hn]
set_option maxHeartbeats 400000 in
theorem mask_any (n : Nat) (w : World) (hn : n ≤ 32) : Calls Tryd.prog 95 #[.int .i64 (n : Int)] w fun e w' => e = .returned (.int .u32 (maskOf n : Int)) ∧ w' = w := by
  go_enter Tryd.func95, Tryd.ntmps95
  go_wp2
  go_ret
  exact ⟨ret_int (mask_val n), rfl⟩
set_option maxHeartbeats 400000 in
theorem bit_any (A i : Nat) (w : World) (hi : i < 32) : Calls Tryd.prog 49 #[.int .u32 (A : Int), .int .i64 (i : Int)] w fun e w' => e = .returned (.int .u32 (bitAt A i : Int)) ∧ w' = w := by
  go_enter Tryd.func49, Tryd.ntmps49
  go_wp2
  go_ret
  exact ⟨ret_int (bit_val A i), rfl⟩
set_option maxHeartbeats 400000 in
theorem make_out (A L : Int) (w : World) (h : L < 0 ∨ 32 < L) : Calls Tryd.prog 92 #[.int .u32 A, .int .i64 L] w fun e w' => e = .returned (.tuple #[pfx 0 0, .bool false]) ∧ Below w.heap.size w w' := by
  by_cases h0 : L < 0
  · clear h
    go_enter Tryd.func92, Tryd.ntmps92
    go_wp2
    refine bodyPost_ret (v := .tuple #[pfx 0 0, .bool false]) (by simp [results, Tryd.results92, go_sem, pfx]) rfl ⟨rfl, ?_⟩
    exact (Below.refl _ _).alloc (Nat.le_refl _) _
  · have h1 : 32 < L := by omega
    clear h
    go_enter Tryd.func92, Tryd.ntmps92
    go_wp2
    refine bodyPost_ret (v := .tuple #[pfx 0 0, .bool false]) (by simp [results, Tryd.results92, go_sem, pfx]) rfl ⟨rfl, (Below.refl _ _).alloc (Nat.le_refl _) _⟩
set_option maxHeartbeats 400000 in
theorem make_in (A n : Nat) (w : World) (hA : A < 4294967296) (hn : n ≤ 32) : Calls Tryd.prog 92 #[.int .u32 (A : Int), .int .i64 (n : Int)] w fun e w' => e = .returned (.tuple #[pfx (cutTo A n) n, .bool true]) ∧ Below w.heap.size w w' := by
  have d0 : decide ((n : Int) < 0) = false := decide_eq_false (by omega)
  have d1 : decide ((32 : Int) < (n : Int)) = false := decide_eq_false (by omega)
  go_enter Tryd.func92, Tryd.ntmps92
  go_wp2_with fail
  refine (mask_any n _ hn).mono ?_
  rintro e w1 ⟨rfl, rfl⟩
  go_wp2
  refine bodyPost_ret (v := .tuple #[pfx (cutTo A n) n, .bool true]) (by simp [results, Tryd.results92, go_sem, pfx, and_val A n hA hn]) rfl ⟨rfl, (Below.refl _ _).alloc (Nat.le_refl _) _⟩
theorem step_val (A k x : Nat) (hk : k < 32) (hx : x = cutTo A k) : (x : Int) + (bitAt A k : Int) * 2 ^ (31 - k) = ((cutTo A (k + 1) : Nat) : Int) := by
  rw [cutTo_succ A k hk, hx]
  simp
theorem step_lt (A k x : Nat) (hA : A < 4294967296) (hk : k < 32) (hx : x = cutTo A k) : (x : Int) + (bitAt A k : Int) * 2 ^ (31 - k) < 4294967296 := by
  rw [step_val A k x hk hx]
  have := cutTo_lt A (k + 1) hA
  omega
theorem step_wrap (A k x : Nat) (hA : A < 4294967296) (hk : k < 32) (hx : x = cutTo A k) :
    IntKind.u32.wrap ((x : Int) + IntKind.u32.wrap ((bitAt A k : Int) * 2 ^ min (IntKind.u64.wrap (IntKind.i64.wrap (31 - (k : Int)))).toNat 32)) = ((cutTo A (k + 1) : Nat) : Int) := by
  have e : min (IntKind.u64.wrap (IntKind.i64.wrap (31 - (k : Int)))).toNat 32 = 31 - k := by
    rw [IntKind.wrap_i64, IntKind.wrap_u64]; omega
  rw [e, ← step_val A k x hk hx]
  have h1 := step_lt A k x hA hk hx
  have h0 : 0 ≤ (bitAt A k : Int) * 2 ^ (31 - k) := by
    have e2 : (bitAt A k : Int) * 2 ^ (31 - k) = ((bitAt A k * 2 ^ (31 - k) : Nat) : Int) := by simp
    rw [e2]; exact Int.natCast_nonneg _
  generalize (bitAt A k : Int) * 2 ^ (31 - k) = z at *
  rw [IntKind.wrap_u32, IntKind.wrap_u32]
  omega
theorem set_first (w0 : World) (a b v : Value) (t : TypeId) (m h : Nat) (hh : w0.heap.size = h) : ((w0.alloc (.cells #[a, b] t)).drewN m).setCell ⟨h, 0, none⟩ v = (w0.alloc (.cells #[v, b] t)).drewN m := by
  subst hh
  have := World.setCell_alloc_new (w := w0) #[a, b] t 0 v
  show ((w0.alloc (.cells #[a, b] t)).setCell ⟨w0.heap.size, 0, none⟩ v).drewN m = _
  rw [this]
  rfl
end Go.Proofs.YthigjonagbfbbaaDoor
/- A region that draws its order, whose calls may make memory of their own: one walk, in the class of the worlds in which all that was there stands. -/
namespace Go.Proofs.YthigjonagbfbbaaDoor
open Go.RowKit
set_option maxRecDepth 100000

/-- A world in which all that was in w0 stands. -/
structure Later (w0 : World) where
  w : World
  h : Below w0.heap.size w0 w
/-- To be laid ahead of the walk, at the region's own world ('have := later_some w5'). -/
theorem later_some (w0 : World) : Nonempty (Later w0) := ⟨⟨w0, Below.refl _ _⟩⟩
theorem region_later {P : Program} {id : Nat} {Q : Exit → Act → World → Prop} {a : Act} {w : World} {l : List Oper} (hm : P.follows .mixedOrders = true) (hB : Region.lexB .any l.toArray = true)
    (h : wpQuiet P l.toArray (fun w' => ∃ x : Later w, w' = x.w) (fun a' => ∀ w', (∃ x : Later w, w' = x.w) → Q .normal a' w') l a) : (Code.region id l.toArray true).wp P Q a w :=
  wp_region_quiet (C := fun w' => ∃ x : Later w, w' = x.w) hm hB ⟨⟨{ w with drawn := w.drawn + 1 }, ⟨rfl, rfl, rfl, Nat.le_refl _, fun _ _ => rfl⟩⟩, rfl⟩ (by simpa using h)
/-- A callee that makes memory of its own alone. -/
theorem calls_later {P : Program} {f : FuncId} {args : Array Value} {w0 : World} {v : Value} (x : Later w0) (h : Calls P f args x.w fun e w' => e = .returned v ∧ Below x.w.heap.size x.w w') : Calls P f args x.w fun e w' => e = .returned v ∧ ∃ y : Later w0, w' = y.w :=
  h.mono fun _ w' ⟨he, hb⟩ => ⟨he, ⟨w', x.h.trans ⟨hb.os, hb.tape, hb.output, hb.size, fun k hk => hb.block k (Nat.lt_of_lt_of_le hk x.h.size)⟩⟩, rfl⟩
/-- A callee that leaves the world alone. -/
theorem calls_same {P : Program} {f : FuncId} {args : Array Value} {w0 : World} {v : Value} (x : Later w0) (h : Calls P f args x.w fun e w' => e = .returned v ∧ w' = x.w) : Calls P f args x.w fun e w' => e = .returned v ∧ ∃ y : Later w0, w' = y.w :=
  h.mono fun _ _ ⟨he, hw⟩ => ⟨he, x, hw⟩
/-- A callee that only draws. -/
theorem calls_drew {P : Program} {f : FuncId} {args : Array Value} {w0 : World} {v : Value} (x : Later w0) (h : Calls P f args x.w fun e w' => e = .returned v ∧ ∃ k, w' = x.w.drewN k) : Calls P f args x.w fun e w' => e = .returned v ∧ ∃ y : Later w0, w' = y.w :=
  h.mono fun _ _ ⟨he, k, hw⟩ => ⟨he, ⟨x.w.drewN k, x.h.trans ⟨rfl, rfl, rfl, Nat.le_refl _, fun _ _ => rfl⟩⟩, hw⟩
theorem Later.cell {w0 : World} (x : Later w0) {a : Addr} {v : Value} (h : w0.cell? a = some v) : x.w.cell? a = some v := by
  rw [World.cell?_of_block (w := w0) (x.h.block _ (World.block_lt_of_cell? w0 _ h))]
  exact h
end Go.Proofs.YthigjonagbfbbaaDoor
