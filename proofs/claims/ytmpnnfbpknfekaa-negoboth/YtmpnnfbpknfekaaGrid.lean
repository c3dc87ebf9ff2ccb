/- A region that draws its order: what only reads is taken first, in a given order; then two chains of operations, in whatever order they come. Nothing of the program is named here. -/
import Derived.Test.YtmpnnfbpknfekaaMix
import Derived.Test.YtmpnnfbpknfekaaOrd
namespace Go.Proofs.Ytmpnnfbpknfekaa
open Go.RowKit
set_option maxRecDepth 100000

section
variable {P : Program} {ops : Array Oper} {Q : Exit → Act → World → Prop} {S : World → Prop}
/-- The operations of a list, each of which only reads, one behind the other. -/
def wpPre (P : Program) (ops : Array Oper) (S : World → Prop) (K : Act → Prop) : List Nat → Act → Prop
  | [], a => K a
  | k :: r, a => ∃ o v, ops[k]? = some o ∧ YieldsIf P ops S o v a ∧ wpPre P ops S K r (a.put o.dst v)
def preB (ops : Array Oper) : List Nat → Array Bool → Bool
  | [], _ => true
  | k :: r, listed => (Region.ready .any ops listed).contains k && Region.free .any ops listed k && preB ops r (listed.setIfInBounds k true)
def preL : List Nat → Array Bool → Array Bool
  | [], listed => listed
  | k :: r, listed => preL r (listed.setIfInBounds k true)
theorem anyH_pre (hs : Region.noSelect ops = true) (hQ : ∀ c a a' w, Q (.panic c) a w → Q (.panic c) a' w) {w : World} (hS : S w) {f : Nat} : ∀ (l : List Nat) (listed : Array Bool) (a : Act), preB ops l listed = true →
    wpPre P ops S (fun a' => wpAnyH P .any ops Q S f (preL l listed) a' w) l a → wpAnyH P .any ops Q S (f + l.length) listed a w
  | [], _, _, _, h => h
  | k :: r, listed, a, hB, h => by
    simp only [preB, Bool.and_eq_true] at hB
    obtain ⟨o, v, ho, hy, h⟩ := h
    exact wpAnyH_take ho hs hB.1.2 hB.1.1 (fun _ _ _ h => hQ _ _ _ _ h) hy hS (anyH_pre hs hQ hS r _ _ hB.2 h)
theorem pre_q {K : Act → Prop} {o : Oper} {l : List Nat} {k : Nat} {a a' : Act} {v : Value} (ho : ops[k]? = some o) (hw : Region.wanted o (yielded ops a.tmps) = true) (hy : ∀ w, S w → (execOp a.eval o).run P w = .ok (.value v) w) (ha : a.put o.dst v = a') (h : wpPre P ops S K l a') :
    wpPre P ops S K (k :: l) a := ⟨o, v, ho, .inl ⟨hw, hy⟩, by rw [ha]; exact h⟩
/-- Two chains: c of n operations, d of m; J i j: what stands when i of the one and j of the other have been done. -/
theorem grid2 (n m r : Nat) (c d : Nat → Nat) (Ls : Nat → Nat → Array Bool) (J : Nat → Nat → Act → World → Prop)
    (hc : ∀ i j, i < n → j ≤ m → (Ls i j).setIfInBounds (c i) true = Ls (i + 1) j) (hd : ∀ i j, i ≤ n → j < m → (Ls i j).setIfInBounds (d j) true = Ls i (j + 1))
    (hr : ∀ i j, i ≤ n → j ≤ m → ¬ (i = n ∧ j = m) → Region.ready .any ops (Ls i j) ≠ [] ∧ ∀ x ∈ Region.ready .any ops (Ls i j), (i < n ∧ x = c i) ∨ (j < m ∧ x = d j))
    (sc : ∀ i j a w, i < n → j ≤ m → J i j a w → wpOp P ops Q (c i) (fun a' w' => S w' ∧ J (i + 1) j a' w') a w)
    (sd : ∀ i j a w, i ≤ n → j < m → J i j a w → wpOp P ops Q (d j) (fun a' w' => S w' ∧ J i (j + 1) a' w') a w)
    (fin : ∀ a w, J n m a w → wpAnyH P .any ops Q S r (Ls n m) a w) :
    ∀ (t i j : Nat) (a : Act) (w : World), (n - i) + (m - j) = t → i ≤ n → j ≤ m → J i j a w → wpAnyH P .any ops Q S (r + t) (Ls i j) a w
  | 0, i, j, a, w, ht, hi, hj, h => by
    obtain rfl : i = n := by omega
    obtain rfl : j = m := by omega
    exact fin a w h
  | t + 1, i, j, a, w, ht, hi, hj, h => by
    obtain ⟨hne, hall⟩ := hr i j hi hj (by omega)
    refine wpAnyH_all rfl hne fun x hx => ?_
    rcases hall x hx with ⟨h1, rfl⟩ | ⟨h1, rfl⟩
    · refine wpOp_mono (fun a' w' h9 => ⟨h9.1, ?_⟩) (sc i j a w h1 hj h)
      rw [hc i j h1 hj]
      exact grid2 n m r c d Ls J hc hd hr sc sd fin t (i + 1) j a' w' (by omega) (by omega) hj h9.2
    · refine wpOp_mono (fun a' w' h9 => ⟨h9.1, ?_⟩) (sd i j a w hi h1 h)
      rw [hd i j hi h1]
      exact grid2 n m r c d Ls J hc hd hr sc sd fin t i (j + 1) a' w' (by omega) hi (by omega) h9.2
end
/-- The region: what it is to be shown. -/
theorem region_held {P : Program} {id : Nat} {Q : Exit → Act → World → Prop} {a : Act} {w : World} {l : List Oper} (S : World → Prop) (hm : P.follows .mixedOrders = true)
    (h : wpAnyH P .any l.toArray (fun e a w => (∀ c, e ≠ .panic c) ∧ Q e a w) S l.length (Array.replicate l.length false) a w.drew) : (Code.region id l.toArray true).wp P Q a w := by
  have h2 : (Code.region id l.toArray true).wp P (fun e a w => (∀ c, e ≠ .panic c) ∧ Q e a w) a w := wp_region_held (S := S) hm (by simpa using h)
  exact Code.wp_mono (fun _ _ _ h => h.2) h2
theorem noPanicQ {Q : Exit → Act → World → Prop} : ∀ c a a' w, (fun e a w => (∀ c, e ≠ Exit.panic c) ∧ Q e a w) (.panic c) a w → (fun e a w => (∀ c, e ≠ Exit.panic c) ∧ Q e a w) (.panic c) a' w := fun c _ _ _ h => absurd rfl (h.1 c)
end Go.Proofs.Ytmpnnfbpknfekaa
