/- Lay in plain numbers: Writes up to the first error, Flush, the head, Flush. -/
import Derived.Test.YtbecchoidglaeaaEnt
namespace Go.Proofs.Ytbecchoidglaeaa
open Go.RowKit
set_option maxRecDepth 100000

/-- A Write of a sector that there is: what is then, and the error. -/
def St.wr (s : St) (i : Nat) (p : Nat → Nat) : St × Nat := if s.power then (s.spent.write i p, 0) else (s.spent, 4)
/-- A Flush. -/
def St.fl (s : St) : St × Nat := if s.power then (s.spent.flush, 0) else (s.spent, 4)
/-- The pages F 1 .. F n are written behind sector at_, up to the first error. -/
def bodies (s : St) (at_ : Nat) (F : Nat → Nat → Nat) : Nat → St × Nat
  | 0 => (s, 0)
  | n + 1 => if (bodies s at_ F n).2 = 0 then (bodies s at_ F n).1.wr (at_ + (n + 1)) (fill (F (n + 1)) 64) else bodies s at_ F n
/-- Lay, where there is room: bodies, Flush, the head, Flush. -/
def St.lay (s : St) (at_ : Nat) (F : Nat → Nat → Nat) (n : Nat) : St × Nat :=
  let r1 := bodies s at_ F (n - 1)
  if r1.2 = 0 then
    let r2 := r1.1.fl
    if r2.2 = 0 then
      let r3 := r2.1.wr at_ (fill (F 0) 64)
      if r3.2 = 0 then r3.1.fl else r3
    else r2
  else r1
theorem wr_n (s : St) (i : Nat) (p : Nat → Nat) : (s.wr i p).1.n = s.n := by unfold St.wr; split <;> rfl
theorem fl_n (s : St) : s.fl.1.n = s.n := by unfold St.fl; split <;> rfl
theorem wr_lo (s : St) (i : Nat) (p : Nat → Nat) : (s.wr i p).1.lo.length ≤ s.lo.length + 1 := by
  unfold St.wr; split
  · simp [St.write, St.spent]
  · simp [St.spent]
theorem fl_lo (s : St) : s.fl.1.lo.length ≤ s.lo.length := by
  unfold St.fl; split
  · simp [St.flush]
  · simp [St.spent]
theorem bodies_n (s : St) (at_ : Nat) (F : Nat → Nat → Nat) : ∀ n, (bodies s at_ F n).1.n = s.n
  | 0 => rfl
  | n + 1 => by
    unfold bodies
    split
    · rw [wr_n, bodies_n s at_ F n]
    · exact bodies_n s at_ F n
theorem bodies_lo (s : St) (at_ : Nat) (F : Nat → Nat → Nat) : ∀ n, (bodies s at_ F n).1.lo.length ≤ s.lo.length + n
  | 0 => Nat.le_refl _
  | n + 1 => by
    have ih := bodies_lo s at_ F n
    unfold bodies
    split
    · have := wr_lo (bodies s at_ F n).1 (at_ + (n + 1)) (fill (F (n + 1)) 64); omega
    · omega
theorem bodies_stuck (s : St) (at_ : Nat) (F : Nat → Nat → Nat) (k : Nat) (h : (bodies s at_ F k).2 ≠ 0) : ∀ n, k ≤ n → bodies s at_ F n = bodies s at_ F k
  | 0, hk => by rw [show k = 0 from by omega]
  | n + 1, hk => by
    by_cases e : k = n + 1
    · rw [e]
    · have ih := bodies_stuck s at_ F k h n (by omega)
      conv => lhs; unfold bodies
      rw [ih, if_neg h]

theorem lay_of_stuck {s : St} {at_ n k : Nat} {F : Nat → Nat → Nat} (hk : k ≤ n - 1) (h : (bodies s at_ F k).2 ≠ 0) : s.lay at_ F n = bodies s at_ F k := by
  unfold St.lay
  rw [bodies_stuck s at_ F k h (n - 1) hk]
  simp only [if_neg h]
/-- The sector behind the entry, or 0. -/
def layNext (r : St × Nat) (at_ n : Nat) : Int := if r.2 = 0 then (at_ : Int) + (n : Int) else 0
end Go.Proofs.Ytbecchoidglaeaa
