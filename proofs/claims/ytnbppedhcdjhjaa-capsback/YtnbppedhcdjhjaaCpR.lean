/- Capabilities under way in their box; the program's readFour. -/
import Derived.Test.YtnbppedhcdjhjaaCpN
import Derived.Test.YtnbppedhcdjhjaaCpG
namespace Go.Proofs.Ytnbppedhcdjhjaa
open Go.RowKit
set_option maxRecDepth 100000

/-- The box at block X holds c, and may be written. -/
structure CBox (w : World) (X : Nat) (c : Cp) : Prop where
  cells : BoxC w X c
  free : ∀ j, w.frozen? ⟨X, j, none⟩ = false
theorem CBox.size {w : World} {X : Nat} {c : Cp} (h : CBox w X c) : X < w.heap.size := h.cells.size
theorem CBox.block {w w' : World} {X : Nat} {c : Cp} (h : CBox w X c) (hb : w'.heap[X]? = w.heap[X]?) : CBox w' X c :=
  ⟨h.cells.block hb, fun j => by rw [World.frozen?_of_block hb]; exact h.free j⟩
theorem CBox.later {w w' : World} {X : Nat} {c : Cp} (h : CBox w X c) (hb : Below w.heap.size w w') : CBox w' X c := h.block (hb.block X h.size)
/-- What reading leaves. -/
def Took (X : Nat) (r : Option Cp) (e : Ending) (w : World) : Prop := match r with
  | none => e = .returned (.bool false)
  | some c => e = .returned (.bool true) ∧ CBox w X c
theorem took_no (X : Nat) (r : Option Cp) (w : World) (h : r = none) : Took X r (.returned (.bool false)) w := by rw [h]; rfl
theorem took_go {X : Nat} {r : Option Cp} {w : World} {c : Cp} (h : r = some c) (hb : CBox w X c) : Took X r (.returned (.bool true)) w := by rw [h]; exact ⟨rfl, hb⟩
/-- The cells of a box, one by one. -/
theorem box_set (w : World) (X k : Nat) (u : Value) (j : Nat) (v : Value) (hj : w.cell? ⟨X, j, none⟩ = some v) : (w.setCell ⟨X, k, none⟩ u).cell? ⟨X, j, none⟩ = some (if k = j then u else v) := by
  by_cases e : k = j
  · subst e
    rw [if_pos rfl]
    exact World.cell?_setCell_same _ _ _ hj
  · rw [if_neg e, World.cell?_setCell_other _ _ _ _ (by intro e9; injection e9 with _ e2 _; exact e e2)]
    exact hj
set_option maxHeartbeats 1600000 in
theorem rfour_any (X : Nat) (c : Cp) (a : Option Addr) (cap : Nat) (bs : List Nat) (w : World) (hx : CBox w X c) (hr : BRd w a bs) :
    Calls Try.prog 30 #[.pointer (some ⟨X, 0, none⟩), .slice a bs.length cap] w fun e w' => Took X (readOne 65 bs c) e w' ∧ Keeps (fun b => b = X) w w' := by
  have e65 : readOne 65 bs c = if bs.length = 4 ∧ numB bs ≠ 0 then some (putFour bs c) else none := by unfold readOne; rw [if_pos rfl]
  by_cases h4 : bs.length = 4
  · obtain ⟨b, o, rfl, hc⟩ := hr.1.2 (by omega)
    have HN := hide (numof_any b o 4 cap bs w h4 (by omega) hr.2 (fun i hi => hc i (by omega)))
    have hlt : numB bs < 4294967296 := by have := numB_lt bs hr.2; rw [h4] at this; simpa using this
    have HF := hide (fun W => isFour_any (putFour bs c) W)
    have hg : gFour (putFour bs c) = decide (numB bs ≠ 0) := by
      show (if true then decide _ else decide _) = _
      rw [if_pos rfl]
      show decide ((1 : Int) ≤ (numB bs : Int) ∧ (numB bs : Int) ≤ 4294967295) = _
      rw [Bool.eq_iff_iff, decide_eq_true_iff, decide_eq_true_iff]
      omega
    rw [hg] at HF
    have HE : Hid (readOne 65 bs c = if numB bs ≠ 0 then some (putFour bs c) else none) := by
      show _ = _
      rw [e65]
      by_cases h : numB bs ≠ 0
      · rw [if_pos ⟨h4, h⟩, if_pos h]
      · rw [if_neg (fun h9 => h h9.2), if_neg h]
    have HX := hide hx
    have hXs := hx.size
    obtain ⟨x0, x1, x2, x3, x4, x5, x6, x7, x8⟩ := hx.cells
    have f0 := hx.free 0
    have f1 := hx.free 1
    generalize readOne 65 bs c = ro at *
    have HB : Hid (∀ W, Below ((w.setCell ⟨X, 0, none⟩ (.bool true)).setCell ⟨X, 1, none⟩ (.int .i64 (numB bs : Int))).heap.size ((w.setCell ⟨X, 0, none⟩ (.bool true)).setCell ⟨X, 1, none⟩ (.int .i64 (numB bs : Int))) W → CBox W X (putFour bs c) ∧ Keeps (fun b => b = X) w W) := fun W hb => by
      have k : ∀ j v, w.cell? ⟨X, j, none⟩ = some v → ((w.setCell ⟨X, 0, none⟩ (.bool true)).setCell ⟨X, 1, none⟩ (.int .i64 (numB bs : Int))).cell? ⟨X, j, none⟩ = some (if 1 = j then .int .i64 (numB bs : Int) else if 0 = j then .bool true else v) := fun j v h => box_set _ X 1 _ j _ (box_set _ X 0 _ j _ h)
      refine ⟨CBox.later ⟨⟨k 0 _ x0, k 1 _ x1, k 2 _ x2, k 3 _ x3, k 4 _ x4, k 5 _ x5, k 6 _ x6, k 7 _ x7, k 8 _ x8⟩, fun j => by rw [World.frozen?_setCell, World.frozen?_setCell]; exact HX.out.free j⟩ hb, ?_⟩
      exact (((Keeps.refl (fun b => b = X) w).setCell X 0 _ (.inl rfl)).setCell X 1 _ (.inl rfl)).trans (Keeps.of_below hb _) (fun _ _ h => h)
    clear hr hc e65 hg hx
    rw [h4]
    obtain ⟨four, as4, gr, rs, tm, fam, fwd, ll, lt⟩ := c
    unfold putFour capV at HF
    simp only at *
    generalize numB bs = N at *
    clear h4
    go_enter Try.func30, Try.ntmps30
    go_wp2_with fail
    refine HN.out.mono ?_
    rintro e w1 ⟨rfl, rfl⟩
    go_wp2_with fail
    refine (HF.out _).mono ?_
    rintro e w2 ⟨rfl, hb2⟩
    obtain ⟨h8, h9⟩ := HB.out w2 hb2
    have HH8 := hide h8
    have HH9 := hide h9
    clear h8 h9 hb2
    go_wp2
    go_ret
    refine ⟨?_, HH9.out⟩
    show Took X ro (.returned (.bool (!decide (N = 0)))) w2
    rw [HE.out]
    by_cases h0 : N = 0
    · rw [if_neg (fun h => h h0), decide_eq_true h0]; rfl
    · rw [if_pos h0, decide_eq_false h0]; exact ⟨rfl, HH8.out⟩
  · have HE : Hid (readOne 65 bs c = none) := by show _ = _; rw [e65, if_neg (fun h => h4 h.1)]
    generalize readOne 65 bs c = ro at *
    clear hr hx e65
    generalize bs.length = n at *
    have h4i : ((n : Int) != 4) = true := by simp; omega
    clear h4
    go_enter Try.func30, Try.ntmps30
    go_wp2
    go_ret
    exact ⟨took_no _ _ _ HE.out, Keeps.refl _ _⟩
end Go.Proofs.Ytnbppedhcdjhjaa
