/- A path that is read, and what it is, in plain numbers. Nothing of the program is named here. -/
import Derived.Test.YtmpnnfbpknfekaaBase
namespace Go.Proofs.Ytmpnnfbpknfekaa
open Go.RowKit
set_option maxRecDepth 100000

/-- The slice's elements are the numbers zs. -/
def IRd (w : World) (a : Option Addr) (zs : List Int) : Prop := 0 < zs.length → ∃ b off, a = some ⟨b, off, none⟩ ∧ ∀ j z, zs[j]? = some z → w.cell? ⟨b, off + j, none⟩ = some (.int .i64 z)
theorem IRd.below {w w' : World} {a : Option Addr} {zs : List Int} (h : IRd w a zs) (hb : Below w.heap.size w w') : IRd w' a zs := fun hp => by
  obtain ⟨b, off, rfl, hc⟩ := h hp
  exact ⟨b, off, rfl, fun j z hj => by rw [hb.cell (p := ⟨b, off + j, none⟩) (World.block_lt_of_cell? w _ (hc j z hj))]; exact hc j z hj⟩
/-- The slice's elements are the segments ss. -/
structure PthRd (w : World) (a : Option Addr) (ss : List (Bool × List Int)) : Prop where
  cells : 0 < ss.length → ∃ b off, a = some ⟨b, off, none⟩ ∧ ∀ i s, ss[i]? = some s → w.cell? ⟨b, off + i * 2, none⟩ = some (.bool s.1) ∧ ∃ a' c', w.cell? ⟨b, off + i * 2 + 1, none⟩ = some (.slice a' s.2.length c') ∧ IRd w a' s.2
  small : ss.length ≤ maxLen
  smalls : ∀ s ∈ ss, s.2.length ≤ maxLen
theorem PthRd.below {w w' : World} {a : Option Addr} {ss : List (Bool × List Int)} (h : PthRd w a ss) (hb : Below w.heap.size w w') : PthRd w' a ss := by
  refine ⟨fun hp => ?_, h.small, h.smalls⟩
  obtain ⟨b, off, rfl, hc⟩ := h.cells hp
  refine ⟨b, off, rfl, fun i s hi => ?_⟩
  obtain ⟨h1, a', c', h2, h3⟩ := hc i s hi
  exact ⟨by rw [hb.cell (p := ⟨b, off + i * 2, none⟩) (World.block_lt_of_cell? w _ h1)]; exact h1, a', c', by rw [hb.cell (p := ⟨b, off + i * 2 + 1, none⟩) (World.block_lt_of_cell? w _ h2)]; exact h2, h3.below hb⟩
/-- How many numbers, a set counting one. -/
def lenP : List (Bool × List Int) → Nat
  | [] => 0
  | s :: r => (if s.1 then 1 else s.2.length) + lenP r
theorem lenP_snoc (l : List (Bool × List Int)) (s : Bool × List Int) : lenP (l ++ [s]) = lenP l + (if s.1 then 1 else s.2.length) := by
  induction l with
  | nil => simp [lenP]
  | cons a l ih => simp only [List.cons_append, lenP, ih]; omega
/-- How many numbers. -/
def sumP : List (Bool × List Int) → Nat
  | [] => 0
  | s :: r => s.2.length + sumP r
theorem sumP_snoc (l : List (Bool × List Int)) (s : Bool × List Int) : sumP (l ++ [s]) = sumP l + s.2.length := by
  induction l with
  | nil => simp [sumP]
  | cons a l ih => simp only [List.cons_append, sumP, ih]; omega
theorem sumP_take (l : List (Bool × List Int)) : ∀ k, sumP (l.take k) ≤ sumP l := by
  induction l with
  | nil => intro k; simp [sumP]
  | cons a l ih =>
    intro k
    cases k with
    | zero => simp [sumP]
    | succ k => simp only [List.take_succ_cons, sumP]; have := ih k; omega
theorem sumP_mem (l : List (Bool × List Int)) (s : Bool × List Int) (h : s ∈ l) : s.2.length ≤ sumP l := by
  induction l with
  | nil => simp at h
  | cons a l ih =>
    simp only [sumP]
    rcases List.mem_cons.1 h with rfl | h
    · omega
    · have := ih h; omega
theorem lenP_take (l : List (Bool × List Int)) (k : Nat) : lenP (l.take k) ≤ k + sumP l := by
  induction l generalizing k with
  | nil => simp [lenP]
  | cons a l ih =>
    cases k with
    | zero => simp [lenP]
    | succ k =>
      simp only [List.take_succ_cons, lenP, sumP]
      have := ih k
      split <;> omega
/-- Is x in one? -/
def hasP (ss : List (Bool × List Int)) (x : Int) : Bool := ss.any fun s => s.2.any fun z => z == x
/-- The first number of a first sequence. -/
def firstP : List (Bool × List Int) → Option Int
  | (false, z :: _) :: _ => some z
  | _ => none
/-- A number, if there is one. -/
def firstV : Option Int → Value
  | none => .tuple #[.int .i64 0, .bool false]
  | some z => .tuple #[.int .i64 z, .bool true]
/-- May it be a number of a path? -/
def okN (z : Int) : Bool := decide (1 ≤ z ∧ z ≤ 4294967295)
/-- May it be a segment? -/
def okS (s : Bool × List Int) : Bool := decide (1 ≤ s.2.length ∧ s.2.length ≤ 255) && s.2.all okN
/-- Is a path good? -/
def goodP (ss : List (Bool × List Int)) : Bool := ss.all okS && decide (sumP ss ≤ 64)
theorem goodP_no {ss : List (Bool × List Int)} {s : Bool × List Int} (h : s ∈ ss) (hs : okS s = false) : goodP ss = false := by
  unfold goodP
  have : ss.all okS = false := by
    rw [Bool.eq_false_iff]
    intro hh
    rw [List.all_eq_true.1 hh s h] at hs
    cases hs
  rw [this]; rfl
theorem okS_len {s : Bool × List Int} (h : ¬ (1 ≤ s.2.length ∧ s.2.length ≤ 255)) : okS s = false := by
  unfold okS
  rw [decide_eq_false h]; rfl
theorem okS_num {s : Bool × List Int} {z : Int} (h : z ∈ s.2) (hz : okN z = false) : okS s = false := by
  unfold okS
  have : s.2.all okN = false := by
    rw [Bool.eq_false_iff]
    intro hh
    rw [List.all_eq_true.1 hh z h] at hz
    cases hz
  rw [this, Bool.and_false]
end Go.Proofs.Ytmpnnfbpknfekaa
