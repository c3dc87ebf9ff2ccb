/- The document's read: 65, and what is not known. -/
import Derived.Test.YtnbppedhcdjhjaaCpS
import Derived.Test.YtnbppedhcdjhjaaNumF
namespace Go.Proofs.Ytnbppedhcdjhjaa
open Go.RowKit
set_option maxRecDepth 100000

theorem num_numB {bs : List Nat} (h : bs.length = 4) : num (fun i => bs.getD i 0) = numB bs := by
  match bs, h with
  | [a0, a1, a2, a3], _ =>
    rw [numB_four]
    show a0 * 16777216 + a1 * 65536 + a2 * 256 + a3 = _
    omega
theorem CBox.drewN {w : World} {X : Nat} {c : Cp} (h : CBox w X c) (m : Nat) : CBox (w.drewN m) X c := h.block rfl
set_option maxHeartbeats 1600000 in
theorem rd65_any (X : Nat) (c : Cp) (a : Option Addr) (cap : Nat) (bs : List Nat) (w : World) (hx : CBox w X c) (hr : BRd w a bs) :
    Calls Try.prog 26 #[.pointer (some ⟨X, 0, none⟩), .int .i64 65, .slice a bs.length cap] w fun e w' => Took X (readOne 65 bs c) e w' ∧ Keeps (fun b => b = X) w w' := by
  have e65 : readOne 65 bs c = if bs.length = 4 ∧ numB bs ≠ 0 then some (putFour bs c) else none := by unfold readOne; rw [if_pos rfl]
  by_cases h4 : bs.length = 4
  · obtain ⟨b, o, rfl, hc⟩ := hr.1.2 (by omega)
    have HN := hide (num_eq b o 4 cap (fun i => bs.getD i 0) w (by omega) (fun i _ => getD_lt256 hr.2 i) (fun i hi => hc i (by omega)))
    rw [num_numB h4] at HN
    have HE : Hid (readOne 65 bs c = if numB bs ≠ 0 then some (putFour bs c) else none) := by
      show _ = _
      rw [e65]
      by_cases h : numB bs ≠ 0
      · rw [if_pos ⟨h4, h⟩, if_pos h]
      · rw [if_neg (fun h9 => h h9.2), if_neg h]
    have HX := hide hx
    generalize readOne 65 bs c = ro at *
    have HB : Hid (∀ m, CBox (((w.drewN m).setCell ⟨X, 0, none⟩ (.bool true)).setCell ⟨X, 1, none⟩ (.int .i64 (numB bs : Int))) X (putFour bs c) ∧ Keeps (fun b => b = X) w (((w.drewN m).setCell ⟨X, 0, none⟩ (.bool true)).setCell ⟨X, 1, none⟩ (.int .i64 (numB bs : Int)))) := fun m => by
      obtain ⟨x0, x1, x2, x3, x4, x5, x6, x7, x8⟩ := (hx.drewN m).cells
      have k : ∀ j v, (w.drewN m).cell? ⟨X, j, none⟩ = some v → (((w.drewN m).setCell ⟨X, 0, none⟩ (.bool true)).setCell ⟨X, 1, none⟩ (.int .i64 (numB bs : Int))).cell? ⟨X, j, none⟩ = some (if 1 = j then .int .i64 (numB bs : Int) else if 0 = j then .bool true else v) := fun j v h => box_set _ X 1 _ j _ (box_set _ X 0 _ j _ h)
      refine ⟨⟨⟨k 0 _ x0, k 1 _ x1, k 2 _ x2, k 3 _ x3, k 4 _ x4, k 5 _ x5, k 6 _ x6, k 7 _ x7, k 8 _ x8⟩, fun j => by rw [World.frozen?_setCell, World.frozen?_setCell]; exact (HX.out.drewN m).free j⟩, ?_⟩
      exact ((Keeps.mk rfl rfl rfl (Nat.le_refl _) (fun _ _ _ => rfl) : Keeps (fun b => b = X) w (w.drewN m)).setCell X 0 _ (.inl rfl)).setCell X 1 _ (.inl rfl)
    clear hr hc e65 hx
    rw [h4]
    generalize numB bs = N at *
    clear h4
    go_enter Try.func26, Try.ntmps26
    go_wp2_with fail
    refine HN.out.mono ?_
    rintro e w1 ⟨rfl, m, hw1⟩
    have hb := HB.out m
    rw [← hw1] at hb
    have HX1 : Hid (CBox w1 X c) := by rw [hw1]; exact HX.out.drewN m
    have HH8 := hide hb.1
    have HH9 := hide hb.2
    have hXs := HX1.out.size
    obtain ⟨x0, x1, x2, x3, x4, x5, x6, x7, x8⟩ := HX1.out.cells
    have f0 := HX1.out.free 0
    have f1 := HX1.out.free 1
    clear hw1 hb HN HB HX
    go_wp2
    go_ret
    refine ⟨?_, HH9.out⟩
    show Took X ro (.returned (.bool ((N : Int) != 0))) _
    rw [HE.out]
    by_cases h0 : N = 0
    · rw [if_neg (fun h => h h0), h0]; rfl
    · rw [if_pos h0, show ((N : Int) != 0) = true from by simpa using h0]; exact ⟨rfl, HH8.out⟩
  · have HE : Hid (readOne 65 bs c = none) := by show _ = _; rw [e65, if_neg (fun h => h4 h.1)]
    generalize readOne 65 bs c = ro at *
    clear hr hx e65
    generalize bs.length = n at *
    have h4i : ((n : Int) != 4) = true := by simp; omega
    clear h4
    go_enter Try.func26, Try.ntmps26
    go_wp2
    go_ret
    exact ⟨took_no _ _ _ HE.out, Keeps.refl _ _⟩
set_option maxHeartbeats 800000 in
theorem rdno_any (X : Nat) (c : Cp) (k : Nat) (a : Option Addr) (n cap : Nat) (w : World) (hx : CBox w X c) (h65 : k ≠ 65) (h64 : k ≠ 64) (h71 : k ≠ 71) :
    Calls Try.prog 26 #[.pointer (some ⟨X, 0, none⟩), .int .i64 (k : Int), .slice a n cap] w fun e w' => Took X (some c) e w' ∧ Keeps (fun b => b = X) w w' := by
  have HX := hide hx
  have i65 : ((k : Int) == 65) = false := by simp; omega
  have i64 : ((k : Int) == 64) = false := by simp; omega
  have i71 : ((k : Int) == 71) = false := by simp; omega
  clear hx h65 h64 h71
  go_enter Try.func26, Try.ntmps26
  go_wp2
  go_ret
  exact ⟨⟨rfl, HX.out⟩, Keeps.refl _ _⟩
end Go.Proofs.Ytnbppedhcdjhjaa
