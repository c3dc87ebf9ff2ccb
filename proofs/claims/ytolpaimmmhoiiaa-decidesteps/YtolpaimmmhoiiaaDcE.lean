/- The document's score at any step; its Best in plain words. -/
import Derived.Test.YtolpaimmmhoiiaaDcC
namespace Go.Proofs.Ytolpaimmmhoiiaa
open Go.RowKit
set_option maxRecDepth 100000

/-- Those of the routes whose numbers are js. -/
def pickL (all : List Rt) : List Nat → List Rt
  | [] => []
  | j :: l => match all[j]? with
    | some r => r :: pickL all l
    | none => pickL all l
theorem pickL_all : ∀ (all : List Rt) (js : List Nat), (∀ j ∈ js, j < all.length) → (pickL all js).length = js.length ∧ ∀ (k j : Nat), js[k]? = some j → ∃ o, all[j]? = some o ∧ (pickL all js)[k]? = some o
  | _, [], _ => ⟨rfl, fun k j h => by simp at h⟩
  | all, i :: l, h => by
    have hi : i < all.length := h i (by simp)
    obtain ⟨h1, h2⟩ := pickL_all all l fun j hj => h j (by simp [hj])
    have e : pickL all (i :: l) = all[i] :: pickL all l := by rw [pickL, List.getElem?_eq_getElem hi]
    rw [e]
    refine ⟨by simp [h1], fun k j hk => ?_⟩
    cases k with
    | zero =>
      simp at hk
      subst hk
      exact ⟨all[i], List.getElem?_eq_getElem hi, rfl⟩
    | succ k =>
      obtain ⟨o, ho, hp⟩ := h2 k j (by simpa using hk)
      exact ⟨o, ho, by simpa using hp⟩
theorem score_any (step : Nat) (hs : step < 9) (num : Int) (ai : Option Addr) (ci : Nat) (infos : List Inf) (al : Option Addr) (cl : Nat) (all : List Rt) (ae : Option Addr) (ce : Nat) (js : List Nat) (n : Nat) (r : Rt) (w : World) (hn : all[n]? = some r) (ha : all.length ≤ 3000) (hi : infos.length ≤ 100000) (hid : ∀ x ∈ infos, x.id < 4294967296) (hr : fitR r) (hj : js.length ≤ 3000) (hq : ∀ j ∈ js, j < all.length) (R : RtsRd w al all) (E : IRd w ae (js.map fun (j : Nat) => (j : Int))) (I : InfsRd w ai infos) :
    Calls Try.prog 19 #[.int .i64 (step : Int), .int .i64 num, .slice ai infos.length ci, .slice al all.length cl, .slice ae js.length ce, .int .i64 (n : Int)] w fun e w' => e = .returned (.int .i64 (scoreR step num infos (pickL all js) r)) ∧ Below w.heap.size w w' := by
  obtain ⟨h1, h2⟩ := pickL_all all js hq
  match step, hs with
  | 0, _ => exact score_0 num ai ci infos al cl all ae js.length ce (pickL all js) n r w hn ha hi hid hr R I
  | 1, _ => exact score_1 num ai ci infos al cl all ae js.length ce (pickL all js) n r w hn ha hi hid hr R I
  | 2, _ => exact score_2 num ai ci infos al cl all ae js.length ce (pickL all js) n r w hn ha hi hid hr R I
  | 3, _ => exact score_3 num ai ci infos al cl all ae js.length ce (pickL all js) n r w hn ha hi hid hr R I
  | 4, _ => exact score_4 num ai ci infos al cl all ae js.length ce (pickL all js) n r w hn ha hi hid hr R I
  | 5, _ => exact score_5 num ai ci infos al cl all ae ce js (pickL all js) n r w hn ha hi hid hr hj h1 h2 R E I
  | 6, _ => exact score_6 num ai ci infos al cl all ae js.length ce (pickL all js) n r w hn ha hi hid hr R I
  | 7, _ => exact score_7 num ai ci infos al cl all ae js.length ce (pickL all js) n r w hn ha hi hid hr R I
  | 8, _ => exact score_8 num ai ci infos al cl all ae js.length ce (pickL all js) n r w hn ha hi hid hr R I
  | k + 9, h => exact absurd h (by omega)
/-- The least of a function's values and m. -/
def leastB (f : Nat → Int) : List Nat → Int → Int
  | [], m => m
  | j :: l, m => leastB f l (if f j < m then f j else m)
theorem leastB_snoc (f : Nat → Int) (j : Nat) : ∀ (l : List Nat) (m : Int), leastB f (l ++ [j]) m = if f j < leastB f l m then f j else leastB f l m
  | [], _ => rfl
  | _ :: l, _ => leastB_snoc f j l _
/-- How good the one with number j is. -/
def scoreJ (step : Nat) (num : Int) (infos : List Inf) (all : List Rt) (js : List Nat) (j : Nat) : Int := match all[j]? with
  | some r => scoreR step num infos (pickL all js) r
  | none => 0
/-- Those that are left behind a step. -/
def stepB (step : Nat) (num : Int) (infos : List Inf) (all : List Rt) (js : List Nat) : List Nat :=
  js.filter fun j => scoreJ step num infos all js j == leastB (scoreJ step num infos all js) js (scoreJ step num infos all js (js.headD 0))
/-- Those that are left behind k steps. -/
def stepsB (num : Int) (infos : List Inf) (all : List Rt) (js : List Nat) : Nat → List Nat
  | 0 => js
  | k + 1 => stepB k num infos all (stepsB num infos all js k)
/-- Those that may be used at all: the own number is not in their paths. -/
def freeB (num : Int) (all : List Rt) : List Nat := (List.range all.length).filter fun j => match all[j]? with
  | some r => !hasP r.att.path num
  | none => false
theorem stepB_nil (step : Nat) (num : Int) (infos : List Inf) (all : List Rt) : stepB step num infos all [] = [] := rfl
theorem stepB_sub {step : Nat} {num : Int} {infos : List Inf} {all : List Rt} {js : List Nat} {j : Nat} (h : j ∈ stepB step num infos all js) : j ∈ js := (List.mem_filter.1 h).1
theorem stepB_length (step : Nat) (num : Int) (infos : List Inf) (all : List Rt) (js : List Nat) : (stepB step num infos all js).length ≤ js.length := List.length_filter_le _ _
theorem stepsB_sub {num : Int} {infos : List Inf} {all : List Rt} {js : List Nat} {j : Nat} : ∀ (k : Nat), j ∈ stepsB num infos all js k → j ∈ js
  | 0, h => h
  | k + 1, h => stepsB_sub k (stepB_sub h)
theorem freeB_lt {num : Int} {all : List Rt} {j : Nat} (h : j ∈ freeB num all) : j < all.length := by
  have := (List.mem_filter.1 h).1
  simpa using this
/-- The best one's number. -/
def bestB (num : Int) (infos : List Inf) (all : List Rt) : Option Nat := (stepsB num infos all (freeB num all) 9).head?
end Go.Proofs.Ytolpaimmmhoiiaa
