/- Rows of the call's own: their form, where they lie, what leaves them. Nothing of the program is named here. -/
import Derived.Test.YthbgalknhodgnaaApE
namespace Go.Proofs.Ythbgalknhodgnaa
open Go.RowKit
set_option maxRecDepth 100000

theorem slice_of {w : World} {B e size n : Nat} {v : Value} {xs : List Value} (h : w.ownsRow B e size v n xs) : ∃ a c, v = .slice a n c := by
  rcases h.2 with ⟨rfl, h2⟩ | ⟨g, cap, cur, rfl, _⟩
  · exact ⟨none, 0, by rw [h2]⟩
  · exact ⟨_, _, rfl⟩
theorem own_keep {F : Nat → Prop} {w w' : World} {B e size n : Nat} {v : Value} {xs : List Value} (h : w.ownsRow B e size v n xs) (hk : Keeps F w w') (hn : ∀ b, v.ownBlock = some b → ¬ F b) : w'.ownsRow B e size v n xs := by
  refine ⟨h.1, ?_⟩
  rcases h.2 with hh | ⟨g, cap, cur, e1, hg, hc, rest⟩
  · exact .inl hh
  · refine .inr ⟨g, cap, cur, e1, hg, ?_, rest⟩
    rw [hk.block g (Array.getElem?_eq_some_iff.1 hc).1 (hn g (by rw [e1]; rfl))]
    exact hc
theorem own_lt {w : World} {B e size n : Nat} {v : Value} {xs : List Value} (h : w.ownsRow B e size v n xs) (b : Nat) (hb : v.ownBlock = some b) : B ≤ b ∧ b < w.heap.size := own_block h b hb
end Go.Proofs.Ythbgalknhodgnaa
