/- What holds of what goes out (plain). -/
import Derived.Test.YtclihbfjendllaaDoorKAx
import Derived.Test.YtclihbfjendllaaDoorPthBm
namespace Go.Proofs.YtclihbfjendllaaDoor
open Go.RowKit
set_option maxRecDepth 100000

theorem firstP_prep (z : Int) (ss : List (Bool × List Int)) : firstP (prepP z ss) = some z := by
  cases ss with
  | nil => rfl
  | cons s r =>
    rw [prepP]
    split
    · rfl
    · rfl
theorem lenP_le : ∀ ss : List (Bool × List Int), lenP ss ≤ ss.length + sumP ss
  | [] => Nat.zero_le _
  | s :: r => by
    have := lenP_le r
    simp only [lenP, sumP, List.length_cons]
    split <;> omega
theorem export_some {c : Cfg} {pe : Pcf} {ll : Bool} {r : Rt} {src : Int} {ta : At} (h : exportR c pe ll r src = some ta) : (r.peer == pe.num) = false ∧ ta = toldA c pe r.att ∧ goodA ta = true := by
  unfold exportR at h
  split at h
  · rename_i h1
    injection h with h
    simp only [Bool.and_eq_true] at h1
    refine ⟨?_, h.symm, by rw [← h]; exact h1.2⟩
    have h2 := h1.1
    unfold tellB at h2
    simp only [Bool.and_eq_true, Bool.not_eq_true'] at h2
    exact h2.1.1.2
  · cases h
theorem export_same {c : Cfg} {pe : Pcf} {ll : Bool} {r : Rt} {src : Int} {ta : At} (h : exportR c pe ll r src = some ta) (hs : pe.asn = c.asn) : (0 : Int) ≤ ta.pref ∧ ta.next = r.att.next ∧ ta.path = r.att.path := by
  obtain ⟨_, rfl, hg⟩ := export_some h
  rw [toldA_eq, if_pos hs] at hg ⊢
  refine ⟨?_, rfl, rfl⟩
  unfold goodA headA at hg
  simp only [Bool.and_eq_true, decide_eq_true_eq] at hg
  have h1 := hg.1.1.2.1
  unfold ourA at h1 ⊢
  simp only at h1 ⊢
  split at h1 <;> split <;> omega
theorem export_other {c : Cfg} {pe : Pcf} {ll : Bool} {r : Rt} {src : Int} {ta : At} (h : exportR c pe ll r src = some ta) (hs : ¬ pe.asn = c.asn) : ta.path = prepP c.asn r.att.path ∧ ta.next = c.next ∧ ta.med = -1 ∧ ta.pref = -1 := by
  obtain ⟨_, rfl, hg⟩ := export_some h
  rw [toldA_eq, if_neg hs]
  exact ⟨rfl, rfl, rfl, rfl⟩
end Go.Proofs.YtclihbfjendllaaDoor
