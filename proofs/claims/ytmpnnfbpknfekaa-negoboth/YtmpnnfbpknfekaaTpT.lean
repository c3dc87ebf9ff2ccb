/- Two calls in a region that draws its order, in whatever order they come. Nothing of the program is named here. -/
import Derived.Test.YtmpnnfbpknfekaaGrid
namespace Go.Proofs.Ytmpnnfbpknfekaa
open Go.RowKit
set_option maxRecDepth 100000

theorem put_comm (a : Act) {s t : Nat} (v u : Value) (h : s ≠ t) : (a.put (some s) v).put (some t) u = (a.put (some t) u).put (some s) v := by
  unfold Act.put
  simp only [Act.mk.injEq, and_true]
  exact Array.setIfInBounds_comm _ _ h
section
variable {P : Program} {ops : Array Oper} {Q : Exit → Act → World → Prop} {S : World → Prop}
theorem any_two {x y : Nat} {ox oy : Oper} {dx dy : Nat} {vx vy : Value} {f : Nat} {listed : Array Bool} {a : Act} {w : World} (J10 J01 J11 : World → Prop)
    (hx : ops[x]? = some ox) (hy : ops[y]? = some oy) (hne : dx ≠ dy) (gx : ox.guard = none) (gy : oy.guard = none) (hxy : x ≠ y)
    (hr : Region.ready .any ops listed = [x, y]) (hrx : Region.ready .any ops (listed.setIfInBounds x true) = [y]) (hry : Region.ready .any ops (listed.setIfInBounds y true) = [x])
    (sx0 : ∀ K : Act → World → Prop, (∀ w', J10 w' → K (a.put (some dx) vx) w') → ox.wp P a w K Q)
    (sy0 : ∀ K : Act → World → Prop, (∀ w', J01 w' → K (a.put (some dy) vy) w') → oy.wp P a w K Q)
    (sx1 : ∀ w1, J01 w1 → ∀ K : Act → World → Prop, (∀ w', J11 w' → K ((a.put (some dy) vy).put (some dx) vx) w') → ox.wp P (a.put (some dy) vy) w1 K Q)
    (sy1 : ∀ w1, J10 w1 → ∀ K : Act → World → Prop, (∀ w', J11 w' → K ((a.put (some dx) vx).put (some dy) vy) w') → oy.wp P (a.put (some dx) vx) w1 K Q)
    (hS10 : ∀ w', J10 w' → S w') (hS01 : ∀ w', J01 w' → S w') (hS11 : ∀ w', J11 w' → S w')
    (fin : ∀ w', J11 w' → wpAnyH P .any ops Q S f ((listed.setIfInBounds x true).setIfInBounds y true) ((a.put (some dx) vx).put (some dy) vy) w') : wpAnyH P .any ops Q S (f + 2) listed a w := by
  refine wpAnyH_all hr (by simp) fun i hi => ?_
  have hi2 : i = x ∨ i = y := by simpa using hi
  rcases hi2 with rfl | rfl
  · refine op_plain hx gx (sx0 _ fun w' h => ⟨hS10 w' h, ?_⟩)
    refine wpAnyH_all hrx (by simp) fun j hj => ?_
    obtain rfl : j = y := by simpa using hj
    exact op_plain hy gy (sy1 w' h _ fun w2 h2 => ⟨hS11 w2 h2, fin w2 h2⟩)
  · refine op_plain hy gy (sy0 _ fun w' h => ⟨hS01 w' h, ?_⟩)
    refine wpAnyH_all hry (by simp) fun j hj => ?_
    obtain rfl : j = x := by simpa using hj
    refine op_plain hx gx (sx1 w' h _ fun w2 h2 => ⟨hS11 w2 h2, ?_⟩)
    rw [Array.setIfInBounds_comm _ _ (Ne.symm hxy), ← put_comm a vx vy hne]
    exact fin w2 h2
theorem anyH_next (pre : List Nat) (f : Nat) {g : Nat} {listed : Array Bool} {a : Act} {w : World} (hs : Region.noSelect ops = true) (hg : g = f + pre.length) (hB : preB ops pre listed = true) (hS : S w)
    (h : wpPre P ops S (fun a' => wpAnyH P .any ops (fun e a w => (∀ c, e ≠ Exit.panic c) ∧ Q e a w) S f (preL pre listed) a' w) pre a) : wpAnyH P .any ops (fun e a w => (∀ c, e ≠ Exit.panic c) ∧ Q e a w) S g listed a w := by
  rw [hg]
  exact anyH_pre hs noPanicQ hS pre listed a hB h
end
theorem region_pre {P : Program} {id : Nat} {Q : Exit → Act → World → Prop} {a : Act} {w : World} {l : List Oper} (S : World → Prop) (pre : List Nat) (f : Nat) (hm : P.follows .mixedOrders = true) (hs : Region.noSelect l.toArray = true) (hg : l.length = f + pre.length) (hB : preB l.toArray pre (Array.replicate l.length false) = true) (hS : S w.drew)
    (h : wpPre P l.toArray S (fun a' => wpAnyH P .any l.toArray (fun e a w => (∀ c, e ≠ Exit.panic c) ∧ Q e a w) S f (preL pre (Array.replicate l.length false)) a' w.drew) pre a) : (Code.region id l.toArray true).wp P Q a w :=
  region_held S hm (anyH_next pre f hs hg hB hS h)
theorem region_pre2 {P : Program} {id : Nat} {Q : Exit → Act → World → Prop} {a : Act} {w : World} {l : List Oper} (S : World → Prop) (pre : List Nat) (f : Nat) (lst : Array Bool) (hm : P.follows .mixedOrders = true) (hs : Region.noSelect l.toArray = true) (hg : l.length = f + pre.length) (hB : preB l.toArray pre (Array.replicate l.length false) = true) (hL : preL pre (Array.replicate l.length false) = lst) (hS : S w.drew)
    (h : wpPre P l.toArray S (fun a' => wpAnyH P .any l.toArray (fun e a w => (∀ c, e ≠ Exit.panic c) ∧ Q e a w) S f lst a' w.drew) pre a) : (Code.region id l.toArray true).wp P Q a w :=
  region_pre S pre f hm hs hg hB hS (by rw [hL]; exact h)
end Go.Proofs.Ytmpnnfbpknfekaa
