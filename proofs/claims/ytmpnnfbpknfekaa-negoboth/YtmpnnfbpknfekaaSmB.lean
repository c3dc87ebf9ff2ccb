/- The document's Same. -/
import Derived.Test.YtmpnnfbpknfekaaApE
import Derived.Deep.QuietTactic
import Derived.BigQuiet
namespace Go.Proofs.Ytmpnnfbpknfekaa
open Go.RowKit
set_option maxRecDepth 100000

theorem own_shape {w : World} {B e size n : Nat} {v : Value} {xs : List Value} (h : w.ownsRow B e size v n xs) : ∃ a c, v = .slice a n c := by
  rcases h.2 with ⟨rfl, rfl⟩ | ⟨g, cap, cur, rfl, _⟩
  · exact ⟨_, _, rfl⟩
  · exact ⟨_, _, rfl⟩
set_option maxHeartbeats 400000 in
theorem sameq_some (b1 o1 b2 o2 len c1 c2 : Nat) (f : Nat → Nat) (w : World) (hm : len ≤ 1000000)
    (h1 : ∀ i, i < len → w.cell? ⟨b1, o1 + i, none⟩ = some (.int .u8 (f i : Int))) (h2 : ∀ i, i < len → w.cell? ⟨b2, o2 + i, none⟩ = some (.int .u8 (f i : Int))) :
    Calls Try.prog 15 #[.slice (some ⟨b1, o1, none⟩) len c1, .slice (some ⟨b2, o2, none⟩) len c2] w fun e w' => e = .returned (.bool true) ∧ ∃ m, w' = w.drewN m := by
  have H1 := hide h1
  have H2 := hide h2
  clear h1 h2
  go_enter Try.func15, Try.ntmps15
  go_wp2
  go_loopw [5] (fun i wq => ∃ k m : Nat, k ≤ len ∧ i = .int .i64 k ∧ Hid (wq = w.drewN m)) (fun i _ => len - (intOf i).toNat)
  case atStart => exact ⟨0, 0, Nat.zero_le _, rfl, rfl⟩
  case round =>
    obtain ⟨k, m, hk, rfl, HW⟩ := hrel
    by_cases hlt : k < len
    · have c1 : wr.cell? ⟨b1, o1 + k, none⟩ = some (.int .u8 (f k : Int)) := by rw [HW.out, cell_drewN]; exact H1.out k hlt
      have c2 : wr.cell? ⟨b2, o2 + k, none⟩ = some (.int .u8 (f k : Int)) := by rw [HW.out, cell_drewN]; exact H2.out k hlt
      have hk0 : (0 : Int) ≤ (k : Int) := Int.natCast_nonneg _
      have hk1 : (k : Int) < (len : Int) := by omega
      go_wp2_with fail
      go_quiet (fail)
      go_wp2
      exact ⟨⟨k + 1, m + nq, by omega, by go_num, show wr.drewN nq = _ by rw [HW.out, drewN_more]⟩, by simp [intOf]; omega⟩
    · go_wp2
      go_ret
      exact ⟨rfl, m, HW.out⟩
set_option maxHeartbeats 400000 in
theorem sameq_empty (a1 a2 : Option Addr) (c1 c2 : Nat) (w : World) :
    Calls Try.prog 15 #[.slice a1 0 c1, .slice a2 0 c2] w fun e w' => e = .returned (.bool true) ∧ ∃ m, w' = w.drewN m := by
  go_enter Try.func15, Try.ntmps15
  go_wp2
  go_loopw [5] (fun i wq => i = .int .i64 0 ∧ wq = w) (fun i _ => 0 - (intOf i).toNat)
  case atStart => exact ⟨rfl, rfl⟩
  case round =>
    obtain ⟨rfl, rfl⟩ := hrel
    go_wp2
    go_ret
    exact ⟨rfl, 0, rfl⟩
/-- Two rows of the same bytes. -/
theorem sameb_any {w : World} {B1 B2 : Nat} {v1 v2 : Value} {bs : List Nat} (h1 : w.ownsRow B1 5 1 v1 bs.length (bcells bs)) (h2 : w.ownsRow B2 5 1 v2 bs.length (bcells bs)) (hl : bs.length ≤ 100000) :
    Calls Try.prog 15 #[v1, v2] w fun e w' => e = .returned (.bool true) ∧ ∃ m, w' = w.drewN m := by
  by_cases h0 : bs.length = 0
  · obtain ⟨a1, c1, rfl⟩ := own_shape h1
    obtain ⟨a2, c2, rfl⟩ := own_shape h2
    rw [h0]
    exact sameq_empty a1 a2 c1 c2 w
  · obtain ⟨g1, c1, rfl, _, _⟩ := h1.form (by omega)
    obtain ⟨g2, c2, rfl, _, _⟩ := h2.form (by omega)
    have e : ∀ i, i < bs.length → (bcells bs)[i]? = some (.int .u8 (bs.getD i 0 : Int)) := fun i hi => by simp [bcells, List.getD_eq_getElem?_getD, hi]
    exact sameq_some g1 0 g2 0 bs.length c1 c2 (fun i => bs.getD i 0) w (by omega) (fun i hi => by rw [Nat.zero_add, h1.cellAt i (by omega)]; exact e i hi) (fun i hi => by rw [Nat.zero_add, h2.cellAt i (by omega)]; exact e i hi)
end Go.Proofs.Ytmpnnfbpknfekaa
