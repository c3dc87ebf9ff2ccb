/- The document's SamePrefixes. -/
import Derived.Test.YtfecknbneonidaaPfxAp
import Derived.Deep.QuietTactic
import Derived.BigQuiet
namespace Go.Proofs.Ytfecknbneonidaa
open Go.RowKit
set_option maxRecDepth 100000

theorem own_form {w : World} {B e size n : Nat} {v : Value} {xs : List Value} (h : w.ownsRow B e size v n xs) : ∃ a c, v = .slice a n c := by
  rcases h.2 with ⟨rfl, h2⟩ | ⟨g, cap, cur, rfl, _⟩
  · exact ⟨none, 0, by rw [h2]⟩
  · exact ⟨_, _, rfl⟩
/-- Two rows whose cells are the same. -/
theorem spcells_get (ps : List (Nat × Nat)) : ∀ (i : Nat) (p : Nat × Nat), ps[i]? = some p → (pcells ps)[i * 2]? = some (.int .u32 (p.1 : Int)) ∧ (pcells ps)[i * 2 + 1]? = some (.int .i64 (p.2 : Int)) := by
  induction ps with
  | nil => intro i p h; simp at h
  | cons a l ih =>
    intro i p h
    cases i with
    | zero => simp at h; subst h; exact ⟨rfl, rfl⟩
    | succ i =>
      have := ih i p (by simpa using h)
      rw [show (i + 1) * 2 = i * 2 + 1 + 1 from by omega]
      simpa [pcells] using this
set_option maxHeartbeats 800000 in
theorem sprefixes_some (g1 g2 n c1 c2 : Nat) (A : Nat → Nat) (N : Nat → Nat) (w : World) (hn : n ≤ 100000)
    (h1 : ∀ i, i < n → w.cell? ⟨g1, 0 + i * 2, none⟩ = some (.int .u32 (A i : Int)) ∧ w.cell? ⟨g1, 0 + i * 2 + 1, none⟩ = some (.int .i64 (N i : Int)))
    (h2 : ∀ i, i < n → w.cell? ⟨g2, 0 + i * 2, none⟩ = some (.int .u32 (A i : Int)) ∧ w.cell? ⟨g2, 0 + i * 2 + 1, none⟩ = some (.int .i64 (N i : Int))) :
    Calls Try.prog 16 #[.slice (some ⟨g1, 0, none⟩) n c1, .slice (some ⟨g2, 0, none⟩) n c2] w fun e w' => e = .returned (.bool true) ∧ ∃ m, w' = w.drewN m := by
  have H1 := hide h1
  have H2 := hide h2
  clear h1 h2
  go_enter Try.func16, Try.ntmps16
  go_wp2
  go_loopw [5] (fun i wq => ∃ k m : Nat, k ≤ n ∧ i = .int .i64 k ∧ Hid (wq = w.drewN m)) (fun i _ => n - (intOf i).toNat)
  case atStart => exact ⟨0, 0, Nat.zero_le _, rfl, rfl⟩
  case round =>
    obtain ⟨k, m, hk, rfl, HW⟩ := hrel
    by_cases hlt : k < n
    · have a0 : wr.cell? ⟨g1, k * 2, none⟩ = some (.int .u32 (A k : Int)) := by rw [HW.out, cell_drewN]; have := (H1.out k hlt).1; rwa [Nat.zero_add] at this
      have a1 : wr.cell? ⟨g1, k * 2 + 1, none⟩ = some (.int .i64 (N k : Int)) := by rw [HW.out, cell_drewN]; have := (H1.out k hlt).2; rwa [Nat.zero_add] at this
      have b0 : wr.cell? ⟨g2, k * 2, none⟩ = some (.int .u32 (A k : Int)) := by rw [HW.out, cell_drewN]; have := (H2.out k hlt).1; rwa [Nat.zero_add] at this
      have b1 : wr.cell? ⟨g2, k * 2 + 1, none⟩ = some (.int .i64 (N k : Int)) := by rw [HW.out, cell_drewN]; have := (H2.out k hlt).2; rwa [Nat.zero_add] at this
      have hk0 : (0 : Int) ≤ (k : Int) := Int.natCast_nonneg _
      have hk1 : (k : Int) < (n : Int) := by omega
      generalize A k = x at *
      generalize N k = y at *
      go_wp2_with fail
      go_quiet (fail)
      go_wp2
      exact ⟨⟨k + 1, m + nq, by omega, by go_num, show wr.drewN nq = _ by rw [HW.out, drewN_more]⟩, by simp [intOf]; omega⟩
    · go_wp2
      go_ret
      exact ⟨rfl, m, HW.out⟩
set_option maxHeartbeats 400000 in
theorem sprefixes_empty (a1 a2 : Option Addr) (c1 c2 : Nat) (w : World) :
    Calls Try.prog 16 #[.slice a1 0 c1, .slice a2 0 c2] w fun e w' => e = .returned (.bool true) ∧ ∃ m, w' = w.drewN m := by
  go_enter Try.func16, Try.ntmps16
  go_wp2
  go_loopw [5] (fun i wq => i = .int .i64 0 ∧ wq = w) (fun i _ => 0 - (intOf i).toNat)
  case atStart => exact ⟨rfl, rfl⟩
  case round =>
    obtain ⟨rfl, rfl⟩ := hrel
    go_wp2
    go_ret
    exact ⟨rfl, 0, rfl⟩
/-- Two lists of the same prefixes. -/
theorem sprefixes_any {w : World} {B1 B2 : Nat} {v1 v2 : Value} {ps : List (Nat × Nat)} (h1 : w.ownsRow B1 31 2 v1 ps.length (pcells ps)) (h2 : w.ownsRow B2 31 2 v2 ps.length (pcells ps)) (hl : ps.length ≤ 100000) :
    Calls Try.prog 16 #[v1, v2] w fun e w' => e = .returned (.bool true) ∧ ∃ m, w' = w.drewN m := by
  by_cases h0 : ps.length = 0
  · obtain ⟨a1, c1, rfl⟩ := own_form h1
    obtain ⟨a2, c2, rfl⟩ := own_form h2
    rw [h0]
    exact sprefixes_empty a1 a2 c1 c2 w
  · obtain ⟨g1, c1, rfl, _, _⟩ := h1.form (by omega)
    obtain ⟨g2, c2, rfl, _, _⟩ := h2.form (by omega)
    refine sprefixes_some g1 g2 ps.length c1 c2 (fun i => (ps.getD i (0, 0)).1) (fun i => (ps.getD i (0, 0)).2) w hl (fun i hi => ?_) (fun i hi => ?_)
    · have e : ps[i]? = some (ps.getD i (0, 0)) := by simp [List.getD_eq_getElem?_getD, hi]
      obtain ⟨x, y⟩ := spcells_get ps i _ e
      rw [Nat.zero_add, h1.cellAt (i * 2) (by omega), h1.cellAt (i * 2 + 1) (by omega)]
      exact ⟨x, y⟩
    · have e : ps[i]? = some (ps.getD i (0, 0)) := by simp [List.getD_eq_getElem?_getD, hi]
      obtain ⟨x, y⟩ := spcells_get ps i _ e
      rw [Nat.zero_add, h2.cellAt (i * 2) (by omega), h2.cellAt (i * 2 + 1) (by omega)]
      exact ⟨x, y⟩
end Go.Proofs.Ytfecknbneonidaa
