/- Bytes behind a row of the call's own; the document's one. -/
import Derived.Test.YtolpaimmmhoiiaaAtP
import Derived.Test.YtolpaimmmhoiiaaHSm
import Derived.Deep.QuietTactic
import Derived.BigQuiet
namespace Go.Proofs.Ytolpaimmmhoiiaa
open Go.RowKit
set_option maxRecDepth 100000

/-- An attribute's bytes. -/
def oneB (fl ty : Nat) (bs : List Nat) : List Nat := if 255 < bs.length then [fl + 16, ty, bs.length / 256, bs.length % 256] ++ bs else [fl, ty, bs.length] ++ bs
theorem oneB_length (fl ty : Nat) (bs : List Nat) : (oneB fl ty bs).length ≤ bs.length + 4 := by
  unfold oneB
  split <;> simp
theorem oneB_pos (fl ty : Nat) (bs : List Nat) : 0 < (oneB fl ty bs).length := by
  unfold oneB
  split <;> simp
theorem oneB_lt (fl ty : Nat) (bs : List Nat) (hf : fl < 240) (ht : ty < 256) (hl : bs.length < 65536) (hb : ∀ x ∈ bs, x < 256) : ∀ x ∈ oneB fl ty bs, x < 256 := by
  intro x hx
  unfold oneB at hx
  split at hx
  · simp only [List.cons_append, List.nil_append, List.mem_cons] at hx
    rcases hx with rfl | rfl | rfl | rfl | hx
    · omega
    · omega
    · omega
    · omega
    · exact hb x hx
  · simp only [List.cons_append, List.nil_append, List.mem_cons] at hx
    rcases hx with rfl | rfl | rfl | hx
    · omega
    · omega
    · omega
    · exact hb x hx
end Go.Proofs.Ytolpaimmmhoiiaa
/- The document's Same of any bytes; SameNote; note. -/
namespace Go.Proofs.Ytolpaimmmhoiiaa
open Go.RowKit
set_option maxRecDepth 100000

theorem take_eq_all {x y : List Nat} {n : Nat} (hx : x.length = n) (hy : y.length = n) (h : x.take n = y.take n) : x = y := by
  rwa [List.take_of_length_le (by omega), List.take_of_length_le (by omega)] at h
theorem own_under {w : World} {B e size n X : Nat} {v : Value} {xs : List Value} (h : w.ownsRow B e size v n xs) (hX : X < B) (j : Nat) (u : Value) : (w.setCell ⟨X, j, none⟩ u).ownsRow B e size v n xs := by
  refine ⟨h.1, ?_⟩
  rcases h.2 with hh | ⟨g, cap, cur, ev, hg, hc, rest⟩
  · exact .inl hh
  · refine .inr ⟨g, cap, cur, ev, hg, ?_, rest⟩
    rw [heap_setCell w X j _ g (by omega)]
    exact hc
theorem own_low {w : World} {B B' e size n : Nat} {v : Value} {xs : List Value} (h : w.ownsRow B e size v n xs) (hB : B' ≤ B) : w.ownsRow B' e size v n xs := by
  refine ⟨h.1, ?_⟩
  rcases h.2 with hh | ⟨g, cap, cur, ev, hg, rest⟩
  · exact .inl hh
  · exact .inr ⟨g, cap, cur, ev, Nat.le_trans hB hg, rest⟩
end Go.Proofs.Ytolpaimmmhoiiaa
