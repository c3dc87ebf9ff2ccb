/- A path's bytes, in plain numbers; the document's Path. -/
import Derived.Test.YtmpnnfbpknfekaaPthGd
import Derived.Test.YtmpnnfbpknfekaaNumF
namespace Go.Proofs.Ytmpnnfbpknfekaa
open Go.RowKit
set_option maxRecDepth 100000

/-- A number's four bytes. -/
def b4 (z : Int) : List Nat := (List.range 4).map (byteAt z.toNat)
def nums : List Int → List Nat
  | [] => []
  | z :: r => b4 z ++ nums r
theorem nums_snoc (l : List Int) (z : Int) : nums (l ++ [z]) = nums l ++ b4 z := by
  induction l with
  | nil => simp [nums]
  | cons a l ih => simp only [List.cons_append, nums, ih, List.append_assoc]
theorem b4_length (z : Int) : (b4 z).length = 4 := by simp [b4]
theorem nums_length (l : List Int) : (nums l).length = 4 * l.length := by
  induction l with
  | nil => rfl
  | cons a l ih => simp only [nums, List.length_append, b4_length, ih, List.length_cons]; omega
/-- What a segment's kind is. -/
def kindOf (b : Bool) : Nat := if b then 1 else 2
/-- A segment's bytes. -/
def encSeg (s : Bool × List Int) : List Nat := [kindOf s.1, s.2.length] ++ nums s.2
/-- A path's bytes. -/
def encSegs : List (Bool × List Int) → List Nat
  | [] => []
  | s :: r => encSeg s ++ encSegs r
theorem encSegs_snoc (l : List (Bool × List Int)) (s : Bool × List Int) : encSegs (l ++ [s]) = encSegs l ++ encSeg s := by
  induction l with
  | nil => simp [encSegs]
  | cons a l ih => simp only [List.cons_append, encSegs, ih, List.append_assoc]
theorem encSegs_length (l : List (Bool × List Int)) : (encSegs l).length = 2 * l.length + 4 * sumP l := by
  induction l with
  | nil => rfl
  | cons a l ih => simp only [encSegs, encSeg, List.length_append, nums_length, ih, List.length_cons, sumP, List.length_nil]; omega
/-- A path's bytes, none of one that is not good. -/
def encPath (ss : List (Bool × List Int)) : List Nat := if goodP ss then encSegs ss else []
theorem goodP_seg {ss : List (Bool × List Int)} (h : goodP ss = true) {s : Bool × List Int} (hs : s ∈ ss) : 1 ≤ s.2.length ∧ s.2.length ≤ 255 ∧ ∀ z ∈ s.2, 1 ≤ z ∧ z ≤ 4294967295 := by
  unfold goodP at h
  rw [Bool.and_eq_true] at h
  have h1 := List.all_eq_true.1 h.1 s hs
  unfold okS at h1
  rw [Bool.and_eq_true] at h1
  have h2 := of_decide_eq_true h1.1
  exact ⟨h2.1, h2.2, fun z hz => of_decide_eq_true (List.all_eq_true.1 h1.2 z hz)⟩
theorem goodP_sum {ss : List (Bool × List Int)} (h : goodP ss = true) : sumP ss ≤ 64 := by
  unfold goodP at h
  rw [Bool.and_eq_true] at h
  exact of_decide_eq_true h.2
theorem goodP_len {ss : List (Bool × List Int)} (h : goodP ss = true) : ss.length ≤ 64 := by
  have h0 : ∀ l : List (Bool × List Int), (∀ s ∈ l, 1 ≤ s.2.length) → l.length ≤ sumP l := by
    intro l
    induction l with
    | nil => intro _; simp [sumP]
    | cons a l ih =>
      intro hl
      have h1 := hl a (List.mem_cons_self ..)
      have h2 := ih (fun s hs => hl s (List.mem_cons_of_mem _ hs))
      simp only [List.length_cons, sumP]; omega
  have := h0 ss (fun s hs => (goodP_seg h hs).1)
  have := goodP_sum h
  omega
end Go.Proofs.Ytmpnnfbpknfekaa
