/- The questions least and greatest. -/
import Derived.Test.YtolpaimmmhoiiaaDdD
import Derived.MapKept
import Derived.ChangeMaps5
namespace Go.Proofs.Ytolpaimmmhoiiaa
open Go.RowKit
set_option maxRecDepth 100000

/-- Those of the least value. -/
def leastL (f : Nat → Int) (js : List Nat) : List Nat := js.filter fun j => f j == leastB f js (f (js.headD 0))
/-- A step towards it. -/
def minS (f : Nat → Int) (s : List Nat × Int) (j : Nat) : List Nat × Int := if s.1 = [] ∨ f j < s.2 then ([j], f j) else if f j = s.2 then (s.1 ++ [j], s.2) else s
def minF (f : Nat → Int) (l : List Nat) : List Nat × Int := l.foldl (minS f) ([], 0)
theorem minF_snoc (f : Nat → Int) (l : List Nat) (j : Nat) : minF f (l ++ [j]) = minS f (minF f l) j := by
  unfold minF
  rw [List.foldl_append]
  rfl
theorem leastB_le (f : Nat → Int) : ∀ (l : List Nat) (m : Int), leastB f l m ≤ m ∧ ∀ j ∈ l, leastB f l m ≤ f j
  | [], m => ⟨Int.le_refl _, fun j h => by cases h⟩
  | x :: l, m => by
    obtain ⟨h1, h2⟩ := leastB_le f l (if f x < m then f x else m)
    have h3 : (if f x < m then f x else m) ≤ m ∧ (if f x < m then f x else m) ≤ f x := by split <;> omega
    refine ⟨Int.le_trans h1 h3.1, fun j hj => ?_⟩
    rcases List.mem_cons.1 hj with rfl | hj
    · exact Int.le_trans h1 h3.2
    · exact h2 j hj
theorem leastB_is (f : Nat → Int) : ∀ (l : List Nat) (m : Int), leastB f l m = m ∨ ∃ j ∈ l, f j = leastB f l m
  | [], m => Or.inl rfl
  | x :: l, m => by
    show leastB f l (if f x < m then f x else m) = m ∨ _
    rcases leastB_is f l (if f x < m then f x else m) with h | ⟨j, hj, h⟩
    · by_cases hx : f x < m
      · rw [if_pos hx] at h
        exact Or.inr ⟨x, by simp, by show f x = leastB f l (if f x < m then f x else m); rw [if_pos hx, h]⟩
      · rw [if_neg hx] at h
        exact Or.inl (by rw [if_neg hx]; exact h)
    · exact Or.inr ⟨j, by simp [hj], h⟩
theorem leastB_at (f : Nat → Int) (l : List Nat) (h : l ≠ []) : ∃ j ∈ l, f j = leastB f l (f (l.headD 0)) := by
  rcases leastB_is f l (f (l.headD 0)) with h1 | h1
  · cases l with
    | nil => exact absurd rfl h
    | cons x l => exact ⟨x, by simp, h1.symm⟩
  · exact h1
theorem leastL_ne {f : Nat → Int} {l : List Nat} (h : l ≠ []) : leastL f l ≠ [] := by
  obtain ⟨j, hj, he⟩ := leastB_at f l h
  intro h9
  have : j ∈ leastL f l := List.mem_filter.2 ⟨hj, by simpa using he⟩
  rw [h9] at this
  cases this
theorem minF_eq (f : Nat → Int) : ∀ (n : Nat) (l : List Nat), l.length = n + 1 → minF f l = (leastL f l, leastB f l (f (l.headD 0)))
  | n, l, hl => by
    have hne : l ≠ [] := by intro h; rw [h] at hl; simp at hl
    obtain ⟨r, x, rfl⟩ : ∃ r x, l = r ++ [x] := ⟨l.dropLast, l.getLast hne, (List.dropLast_concat_getLast hne).symm⟩
    rw [minF_snoc]
    cases n with
    | zero =>
      have hr : r = [] := by simp at hl; exact hl
      subst hr
      have e : leastB f [x] (f x) = f x := by simp [leastB]
      simp [minF, minS, leastL, e]
    | succ n =>
      have hr : r.length = n + 1 := by simp at hl; omega
      have hrn : r ≠ [] := by intro h; rw [h] at hr; simp at hr
      rw [minF_eq f n r hr]
      have hh : (r ++ [x]).headD 0 = r.headD 0 := by cases r with
        | nil => exact absurd rfl hrn
        | cons a r => rfl
      rw [hh, leastB_snoc]
      have hmin := (leastB_le f r (f (r.headD 0))).2
      have hLL : leastL f (r ++ [x]) = (r ++ [x]).filter fun j => f j == if f x < leastB f r (f (r.headD 0)) then f x else leastB f r (f (r.headD 0)) := by
        unfold leastL
        rw [hh, leastB_snoc]
      have hln : leastL f r ≠ [] := leastL_ne hrn
      have hLr : leastL f r = r.filter fun j => f j == leastB f r (f (r.headD 0)) := rfl
      rw [hLL]
      unfold minS
      simp only
      generalize leastB f r (f (r.headD 0)) = m at *
      by_cases h1 : f x < m
      · rw [if_pos (Or.inr h1), if_pos h1, List.filter_append]
        have : r.filter (fun j => f j == f x) = [] := by
          rw [List.filter_eq_nil_iff]
          intro j hj
          have := hmin j hj
          simp
          omega
        rw [this]
        simp
      · rw [if_neg (by intro h; rcases h with h | h; exact hln h; exact h1 h), if_neg h1, List.filter_append, ← hLr]
        by_cases h2 : f x = m
        · rw [if_pos h2]
          simp [h2]
        · rw [if_neg h2]
          simp [h2]
theorem minF_nil {f : Nat → Int} {js : List Nat} {k : Nat} (h : k ≤ js.length) : (minF f (js.take k)).1.length = 0 ↔ k = 0 := by
  cases k with
  | zero => simp [minF]
  | succ k =>
    rw [minF_eq f k _ (by simp; omega)]
    have : leastL f (js.take (k + 1)) ≠ [] := leastL_ne (by intro h9; have := congrArg List.length h9; rw [List.length_take, List.length_nil] at this; omega)
    constructor
    · intro h9
      exact absurd (List.length_eq_zero_iff.1 h9) this
    · intro h9
      cases h9
theorem minF_all (f : Nat → Int) (js : List Nat) : (minF f js).1 = leastL f js := by
  cases h : js.length with
  | zero =>
    have := List.length_eq_zero_iff.1 h
    subst this
    rfl
  | succ n => rw [minF_eq f n js h]
theorem minF_length (f : Nat → Int) (js : List Nat) : (minF f js).1.length ≤ js.length := by
  rw [minF_all]
  exact List.length_filter_le _ _
theorem float_lt {a b : Nat} {x y : Int} (h : FlIs a x) (k : FlIs b y) : (FloatKind.f64.format.order a b == some Ordering.lt) = decide (x < y) := by
  have : FloatKind.f64.format.order a b = some (compare x y) := h.order k
  rw [this]
  rcases Int.lt_trichotomy x y with h1 | h1 | h1
  · rw [compare_less h1]; simp [h1]
  · subst h1; rw [compare_same]; simp
  · rw [compare_more h1]
    have : ¬ x < y := by omega
    simp [this]
theorem float_eq {a b : Nat} {x y : Int} (h : FlIs a x) (k : FlIs b y) : (FloatKind.f64.format.order a b == some Ordering.eq) = decide (x = y) := by
  have : FloatKind.f64.format.order a b = some (compare x y) := h.order k
  rw [this]
  rcases Int.lt_trichotomy x y with h1 | h1 | h1
  · rw [compare_less h1]
    have : ¬ x = y := by omega
    simp [this]
  · subst h1; rw [compare_same]; simp
  · rw [compare_more h1]
    have : ¬ x = y := by omega
    simp [this]
end Go.Proofs.Ytolpaimmmhoiiaa
/- A map from numbers to floats that hold whole numbers: what is looked up and laid into it. -/
namespace Go.Proofs.Ytolpaimmmhoiiaa
open Go.RowKit Go.ChangeMaps Go.MapKept
set_option maxRecDepth 100000

def updF (lo : Int → Option Int) (k n : Int) : Int → Option Int := fun x => if x = k then some n else lo x
/-- Block b is a map that has just lo. -/
def MapF (w : World) (b : Nat) (lo : Int → Option Int) : Prop := ∃ es clock, w.heap[b]? = some (.map es clock) ∧ Stamped es clock ∧ (∀ e ∈ es.toList, ∃ k n bits, e.key = .int .i64 k ∧ e.val = .float .f64 bits ∧ FlIs bits n ∧ lo k = some n) ∧ ∀ k n, lo k = some n → ∃ e ∈ es.toList, e.key = .int .i64 k
theorem MapF.keeps {F : Nat → Prop} {w w' : World} {b : Nat} {lo : Int → Option Int} (h : MapF w b lo) (hk : Keeps F w w') (hF : ¬ F b) : MapF w' b lo := by
  obtain ⟨es, clock, h1, hst, h2, h3⟩ := h
  exact ⟨es, clock, by rw [hk.block b (Array.getElem?_eq_some_iff.1 h1).1 hF]; exact h1, hst, h2, h3⟩
theorem MapF.later {w w' : World} {b : Nat} {lo : Int → Option Int} (h : MapF w b lo) (hb : Below w.heap.size w w') : MapF w' b lo :=
  h.keeps (F := fun _ => False) (Keeps.of_below hb _) id
theorem MapF.lt {w : World} {b : Nat} {lo : Int → Option Int} (h : MapF w b lo) : b < w.heap.size := by
  obtain ⟨es, clock, h1, hst, h2, h3⟩ := h
  exact (Array.getElem?_eq_some_iff.1 h1).1
theorem MapF.new (w : World) : MapF (w.alloc (.map #[] 0)) w.heap.size fun _ => none :=
  ⟨#[], 0, (heap_alloc w _).1, stamped_empty 0, by simp, by simp⟩
theorem MapF.find {es : Array MapEntry} {lo : Int → Option Int} (h2 : ∀ e ∈ es.toList, ∃ k n bits, e.key = .int .i64 k ∧ e.val = .float .f64 bits ∧ FlIs bits n ∧ lo k = some n) (h3 : ∀ k n, lo k = some n → ∃ e ∈ es.toList, e.key = .int .i64 k) (k : Int) :
    (lo k = none ∧ (∀ w, (Instr.findKey 3 (.int .i64 k) es.toList).run Try.prog w = .ok none w) ∧ ∀ e ∈ es.toList, e.key ≠ .int .i64 k) ∨ ∃ j e n bits, lo k = some n ∧ FlIs bits n ∧ e.val = .float .f64 bits ∧ (∀ w, (Instr.findKey 3 (.int .i64 k) es.toList).run Try.prog w = .ok (some (j, .float .f64 bits)) w) ∧ es.toList[j]? = some e ∧ e.key = .int .i64 k := by
  rcases findNow_spec (d := .int .i64) (k := .int .i64 k) rfl es.toList 0 (fun e he => by obtain ⟨k', n, b, hk, _⟩ := h2 e he; rw [hk]; rfl) with ⟨f1, f2⟩ | ⟨j, e, f1, f2, f3⟩
  · refine .inl ⟨?_, fun w => run_findKey Try.underlying3 f1, f2⟩
    cases hl : lo k with
    | none => rfl
    | some n =>
      obtain ⟨e, he, hk⟩ := h3 k n hl
      exact absurd hk (f2 e he)
  · obtain ⟨k', n, bits, hk, hv, hf, hl⟩ := h2 e (List.mem_of_getElem? f2)
    have hkk : k' = k := by
      rw [hk] at f3
      injection f3
    subst hkk
    rw [hv, Nat.zero_add] at f1
    exact .inr ⟨j, e, n, bits, hl, hf, hv, fun w => run_findKey Try.underlying3 f1, f2, f3⟩
theorem run_icheck (em : Bool) (k : Int) (w : World) : (Instr.checkKey em 10000 3 (.int .i64 k)).run Try.prog w = .ok () w := by kernel_rfl
theorem MapF.look {w : World} {b : Nat} {lo : Int → Option Int} (h : MapF w b lo) (k : Int) : ∃ bits z, (∀ w' : World, w'.heap[b]? = w.heap[b]? → (Instr.lookup 79 (.map (some b)) (.int .i64 k) true).run Try.prog w' = .ok (.tuple #[.float .f64 bits, .bool z]) w') ∧ (∀ w' : World, w'.heap[b]? = w.heap[b]? → (Instr.lookup 79 (.map (some b)) (.int .i64 k) false).run Try.prog w' = .ok (.float .f64 bits) w') ∧ ((z = false ∧ lo k = none ∧ FlIs bits 0) ∨ ∃ n, z = true ∧ lo k = some n ∧ FlIs bits n) := by
  obtain ⟨es, clock, h1, hst, h2, h3⟩ := h
  rcases MapF.find h2 h3 k with ⟨hl, f1, f2⟩ | ⟨j, e, n, bits, hl, hf, hv, f1, f2, f3⟩
  · refine ⟨0, false, fun w' hw => ?_, fun w' hw => ?_, .inl ⟨rfl, hl, FlIs.zero⟩⟩
    · simp [Instr.lookup, run_underlying Try.underlying79, MapKept.run_getObj_map (hw.trans h1), run_icheck, f1, Result.andThen]
    · simp [Instr.lookup, run_underlying Try.underlying79, MapKept.run_getObj_map (hw.trans h1), run_icheck, f1, Result.andThen]
  · refine ⟨bits, true, fun w' hw => ?_, fun w' hw => ?_, .inr ⟨n, rfl, hl, hf⟩⟩
    · simp [Instr.lookup, run_underlying Try.underlying79, MapKept.run_getObj_map (hw.trans h1), run_icheck, f1, Result.andThen]
    · simp [Instr.lookup, run_underlying Try.underlying79, MapKept.run_getObj_map (hw.trans h1), run_icheck, f1, Result.andThen]
theorem keeps_block {w : World} {b : Nat} {es : Array MapEntry} {clock : Nat} (hb : w.heap[b]? = some (.map es clock)) (o : Obj) : Keeps (fun x => x = b) w (setBlock w b o) :=
  ⟨rfl, rfl, rfl, by simp [setBlock], fun k _ hk => heap_setBlock_other hb o hk⟩
theorem MapF.put {w : World} {b : Nat} {lo : Int → Option Int} (h : MapF w b lo) (k n : Int) (bits : Nat) (hf : FlIs bits n) :
    ∃ w', (Instr.mapUpdate 79 (.map (some b)) (.int .i64 k) (.float .f64 bits)).run Try.prog w = .ok () w' ∧ MapF w' b (updF lo k n) ∧ Keeps (fun x => x = b) w w' := by
  obtain ⟨es, clock, h1, hst, h2, h3⟩ := h
  rcases MapF.find h2 h3 k with ⟨hl, f1, f2⟩ | ⟨j, e, m, bits2, hl, hf2, hv, f1, f2, f3⟩
  · refine ⟨setBlock w b (.map (es.push ⟨.int .i64 k, .float .f64 bits, clock⟩) (clock + 1)), ?_, ⟨_, _, heap_setBlock_same h1 _, stamped_push hst f2, fun e he => ?_, fun k' n' hk' => ?_⟩, keeps_block h1 _⟩
    · simp [Instr.mapUpdate, run_underlying Try.underlying79, MapKept.run_getObj_map h1, run_icheck, f1, MapKept.run_setObj_map _ h1, Result.andThen, setBlock]
    · simp only [Array.toList_push, List.mem_append, List.mem_singleton] at he
      rcases he with he | rfl
      · obtain ⟨k1, n1, b1, e1, e2, e3, e4⟩ := h2 e he
        have : k1 ≠ k := fun q => f2 e he (by rw [e1, q])
        exact ⟨k1, n1, b1, e1, e2, e3, by unfold updF; rw [if_neg this]; exact e4⟩
      · exact ⟨k, n, bits, rfl, rfl, hf, by unfold updF; rw [if_pos rfl]⟩
    · unfold updF at hk'
      by_cases hkk : k' = k
      · subst hkk
        exact ⟨⟨.int .i64 k', .float .f64 bits, clock⟩, by simp, rfl⟩
      · rw [if_neg hkk] at hk'
        obtain ⟨e, he, hk⟩ := h3 k' n' hk'
        exact ⟨e, by simp [he], hk⟩
  · have hj : es[j]? = some e := by simpa using f2
    have hlist : (es.modify j (fun e' => { e' with key := .int .i64 k, val := .float .f64 bits })).toList = es.toList.set j { e with key := .int .i64 k, val := .float .f64 bits } := by rw [Array.toList_modify, modify_eq_set _ _ _ _ f2]
    have hkeyf : ∀ e', es[j]? = some e' → ({ e' with key := .int .i64 k, val := .float .f64 bits } : MapEntry).key = e'.key := fun e' he' => by rw [hj] at he'; cases he'; exact f3.symm
    have hstay : ∀ W, (Instr.keyThatStays (.int .i64 k) (.int .i64 k)).run Try.prog W = .ok (.int .i64 k) W := fun W => run_keyThatStays (d := .int .i64) rfl
    refine ⟨setBlock w b (.map (es.modify j (fun e' => { e' with key := .int .i64 k, val := .float .f64 bits })) clock), ?_, ⟨_, _, heap_setBlock_same h1 _, stamped_modify hst _ _ (fun _ _ => rfl) (fun e' _ he' => hkeyf e' he'), fun x hx => ?_, fun k' n' hk' => ?_⟩, keeps_block h1 _⟩
    · simp [Instr.mapUpdate, run_underlying Try.underlying79, MapKept.run_getObj_map h1, run_icheck, f1, hj, f3, hstay, MapKept.run_setObj_map _ h1, Result.andThen, setBlock]
    · rw [hlist] at hx
      obtain ⟨i, hi, ex⟩ := List.getElem_of_mem hx
      have hil : i < es.toList.length := by simpa using hi
      rw [List.getElem_set] at ex
      split at ex
      · subst ex
        exact ⟨k, n, bits, rfl, rfl, hf, by unfold updF; rw [if_pos rfl]⟩
      · rename_i hne
        have hxm : x ∈ es.toList := ex ▸ List.getElem_mem hil
        obtain ⟨k1, n1, b1, e1, e2, e3, e4⟩ := h2 x hxm
        have hkk : k1 ≠ k := fun q => by
          have hpw := List.pairwise_iff_getElem.1 ((stamped_iff es clock).1 hst).2.2
          obtain ⟨hjl, hje⟩ := List.getElem?_eq_some_iff.1 f2
          have hkx : x.key = e.key := by rw [e1, f3, q]
          rcases Nat.lt_or_gt_of_ne hne with h | h
          · exact hpw j i hjl hil h (by rw [hje, ex]; exact hkx.symm)
          · exact hpw i j hil hjl h (by rw [hje, ex]; exact hkx)
        exact ⟨k1, n1, b1, e1, e2, e3, by unfold updF; rw [if_neg hkk]; exact e4⟩
    · rw [hlist]
      unfold updF at hk'
      obtain ⟨hjl, hje⟩ := List.getElem?_eq_some_iff.1 f2
      by_cases hkk : k' = k
      · subst hkk
        exact ⟨_, List.mem_set hjl _, rfl⟩
      · rw [if_neg hkk] at hk'
        obtain ⟨x, hx, hk⟩ := h3 k' n' hk'
        obtain ⟨i, hi, ex⟩ := List.getElem_of_mem hx
        have hij : j ≠ i := fun q => by
          subst q
          rw [hje] at ex
          subst ex
          rw [f3] at hk
          injection hk with _ h9
          exact hkk h9.symm
        refine ⟨x, ?_, hk⟩
        have h9 : (es.toList.set j { e with key := .int .i64 k, val := .float .f64 bits })[i]? = some x := by
          rw [List.getElem?_set_ne hij, List.getElem?_eq_getElem hi, ex]
        exact List.mem_of_getElem? h9
end Go.Proofs.Ytolpaimmmhoiiaa
/- The steps in plain words: rather, least, and the least Med of each first number, as the document's steps. -/
namespace Go.Proofs.Ytolpaimmmhoiiaa
open Go.RowKit
set_option maxRecDepth 100000

theorem leastB_congr {f g : Nat → Int} : ∀ {l : List Nat} {m : Int}, (∀ j ∈ l, f j = g j) → leastB f l m = leastB g l m
  | [], _, _ => rfl
  | x :: l, m, h => by
    show leastB f l (if f x < m then f x else m) = leastB g l (if g x < m then g x else m)
    rw [h x (by simp)]
    exact leastB_congr fun j hj => h j (by simp [hj])
theorem leastL_congr {f g : Nat → Int} {l : List Nat} (h : ∀ j ∈ l, f j = g j) : leastL f l = leastL g l := by
  cases l with
  | nil => rfl
  | cons x l =>
    unfold leastL
    have e : leastB f (x :: l) (f ((x :: l).headD 0)) = leastB g (x :: l) (g ((x :: l).headD 0)) := by
      rw [leastB_congr h]
      show leastB g (x :: l) (f x) = leastB g (x :: l) (g x)
      rw [h x (by simp)]
    rw [e]
    exact List.filter_congr fun j hj => by rw [h j hj]
theorem ratherL_congr {y z : Nat → Bool} {l : List Nat} (h : ∀ j ∈ l, y j = z j) : ratherL y l = ratherL z l := by
  unfold ratherL
  rw [List.filter_congr h]
/-- A value that is 0 for those that are wanted. -/
theorem leastL_two (y : Nat → Bool) (l : List Nat) : leastL (fun j => if y j = true then 0 else 1) l = ratherL y l := by
  unfold ratherL
  by_cases h : (l.filter y).length = 0
  · rw [if_pos h]
    have hn : ∀ j ∈ l, y j = false := fun j hj => by
      cases hy : y j with
      | false => rfl
      | true =>
        have : j ∈ l.filter y := List.mem_filter.2 ⟨hj, hy⟩
        rw [List.length_eq_zero_iff.1 h] at this
        cases this
    rw [leastL_congr (g := fun _ => 1) (fun j hj => by simp [hn j hj])]
    unfold leastL
    have e : leastB (fun _ => 1) l 1 = 1 := by
      rcases leastB_is (fun _ => (1 : Int)) l 1 with h | ⟨j, _, h⟩
      · exact h
      · exact h.symm
    rw [e, List.filter_eq_self.2 (fun j _ => by simp)]
  · rw [if_neg h]
    obtain ⟨j0, h0⟩ := List.exists_mem_of_ne_nil (l.filter y) (fun e => h (by rw [e]; rfl))
    obtain ⟨hj0, hy0⟩ := List.mem_filter.1 h0
    unfold leastL
    have e : leastB (fun j => if y j = true then (0 : Int) else 1) l ((fun j => if y j = true then (0 : Int) else 1) (l.headD 0)) = 0 := by
      have h1 := (leastB_le (fun j => if y j = true then (0 : Int) else 1) l (if y (l.headD 0) = true then (0 : Int) else 1)).2 j0 hj0
      simp only [hy0, if_true] at h1
      have h2 : (0 : Int) ≤ leastB (fun j => if y j = true then (0 : Int) else 1) l (if y (l.headD 0) = true then (0 : Int) else 1) := by
        rcases leastB_is (fun j => if y j = true then (0 : Int) else 1) l (if y (l.headD 0) = true then (0 : Int) else 1) with h | ⟨j, _, h⟩
        · rw [h]; split <;> omega
        · rw [← h]; split <;> omega
      simp only
      omega
    rw [e]
    refine List.filter_congr fun j _ => ?_
    cases hy : y j <;> simp [hy]
/-- The least Med of each first number among the places so far. -/
def lowS (all : List Rt) (lo : Int → Option Int) (j : Nat) : Int → Option Int := match all[j]? with
  | none => lo
  | some r => match firstP r.att.path with
    | none => lo
    | some f => match lo f with
      | none => updF lo f (medA r.att)
      | some m => if medA r.att < m then updF lo f (medA r.att) else lo
theorem lowS_out {all : List Rt} {lo : Int → Option Int} {j : Nat} (h : all[j]? = none) : lowS all lo j = lo := by
  unfold lowS
  rw [h]
theorem lowS_no {all : List Rt} {lo : Int → Option Int} {j : Nat} {r : Rt} (h : all[j]? = some r) (hf : firstP r.att.path = none) : lowS all lo j = lo := by
  unfold lowS
  rw [h]
  simp only [hf]
theorem lowS_new {all : List Rt} {lo : Int → Option Int} {j : Nat} {r : Rt} {f : Int} (h : all[j]? = some r) (hf : firstP r.att.path = some f) (hl : lo f = none) : lowS all lo j = updF lo f (medA r.att) := by
  unfold lowS
  rw [h]
  simp only [hf, hl]
theorem lowS_less {all : List Rt} {lo : Int → Option Int} {j : Nat} {r : Rt} {f m : Int} (h : all[j]? = some r) (hf : firstP r.att.path = some f) (hl : lo f = some m) (hm : medA r.att < m) : lowS all lo j = updF lo f (medA r.att) := by
  unfold lowS
  rw [h]
  simp only [hf, hl, if_pos hm]
theorem lowS_more {all : List Rt} {lo : Int → Option Int} {j : Nat} {r : Rt} {f m : Int} (h : all[j]? = some r) (hf : firstP r.att.path = some f) (hl : lo f = some m) (hm : ¬ medA r.att < m) : lowS all lo j = lo := by
  unfold lowS
  rw [h]
  simp only [hf, hl, if_neg hm]
def loF (all : List Rt) (js : List Nat) : Int → Option Int := js.foldl (lowS all) fun _ => none
theorem loF_snoc (all : List Rt) (l : List Nat) (j : Nat) : loF all (l ++ [j]) = lowS all (loF all l) j := by
  unfold loF
  rw [List.foldl_append]
  rfl
theorem loF_spec (all : List Rt) : ∀ (n : Nat) (l : List Nat), l.length = n → (∀ f m, loF all l f = some m → ∃ j ∈ l, ∃ r, all[j]? = some r ∧ firstP r.att.path = some f ∧ medA r.att = m) ∧ (∀ j ∈ l, ∀ r, all[j]? = some r → ∀ f, firstP r.att.path = some f → ∃ m, loF all l f = some m ∧ m ≤ medA r.att)
  | 0, l, hl => by
    have := List.length_eq_zero_iff.1 hl
    subst this
    exact ⟨fun f m h => by simp [loF] at h, fun j h => by cases h⟩
  | n + 1, l, hl => by
    have hne : l ≠ [] := by intro h; rw [h] at hl; simp at hl
    obtain ⟨q, x, rfl⟩ : ∃ q x, l = q ++ [x] := ⟨l.dropLast, l.getLast hne, (List.dropLast_concat_getLast hne).symm⟩
    obtain ⟨h1, h2⟩ := loF_spec all n q (by simp at hl; omega)
    rw [loF_snoc]
    generalize loF all q = lo at *
    have up1 : ∀ f m, lo f = some m → ∃ j ∈ q ++ [x], ∃ r, all[j]? = some r ∧ firstP r.att.path = some f ∧ medA r.att = m := fun f m h => by
      obtain ⟨j, hj, r, hr⟩ := h1 f m h
      exact ⟨j, by simp [hj], r, hr⟩
    cases hx : all[x]? with
    | none =>
      rw [lowS_out hx]
      refine ⟨up1, fun j hj r hr f hf => ?_⟩
      rcases List.mem_append.1 hj with hj | hj
      · exact h2 j hj r hr f hf
      · simp at hj
        subst hj
        rw [hx] at hr
        cases hr
    | some t =>
      cases ht : firstP t.att.path with
      | none =>
        rw [lowS_no hx ht]
        refine ⟨up1, fun j hj r hr f hf => ?_⟩
        rcases List.mem_append.1 hj with hj | hj
        · exact h2 j hj r hr f hf
        · simp at hj
          subst hj
          rw [hx] at hr
          cases hr
          rw [ht] at hf
          cases hf
      | some g =>
        have upd : ∀ (hlow : ∀ m, lo g = some m → medA t.att ≤ m), (∀ f m, updF lo g (medA t.att) f = some m → ∃ j ∈ q ++ [x], ∃ r, all[j]? = some r ∧ firstP r.att.path = some f ∧ medA r.att = m) ∧ (∀ j ∈ q ++ [x], ∀ r, all[j]? = some r → ∀ f, firstP r.att.path = some f → ∃ m, updF lo g (medA t.att) f = some m ∧ m ≤ medA r.att) := fun hlow => by
          refine ⟨fun f m h => ?_, fun j hj r hr f hf => ?_⟩
          · unfold updF at h
            by_cases e : f = g
            · rw [if_pos e] at h
              cases h
              exact ⟨x, by simp, t, hx, by rw [e]; exact ht, rfl⟩
            · rw [if_neg e] at h
              exact up1 f m h
          · unfold updF
            by_cases e : f = g
            · rw [if_pos e]
              refine ⟨_, rfl, ?_⟩
              rcases List.mem_append.1 hj with hj | hj
              · obtain ⟨m, hm, hle⟩ := h2 j hj r hr f hf
                rw [e] at hm
                exact Int.le_trans (hlow m hm) hle
              · simp at hj
                subst hj
                rw [hx] at hr
                cases hr
                exact Int.le_refl _
            · rw [if_neg e]
              rcases List.mem_append.1 hj with hj | hj
              · exact h2 j hj r hr f hf
              · simp at hj
                subst hj
                rw [hx] at hr
                cases hr
                rw [ht] at hf
                cases hf
                exact absurd rfl e
        cases hg : lo g with
        | none =>
          rw [lowS_new hx ht hg]
          exact upd fun m h => by rw [hg] at h; cases h
        | some m0 =>
          by_cases hm : medA t.att < m0
          · rw [lowS_less hx ht hg hm]
            exact upd fun m h => by rw [hg] at h; cases h; omega
          · rw [lowS_more hx ht hg hm]
            refine ⟨up1, fun j hj r hr f hf => ?_⟩
            rcases List.mem_append.1 hj with hj | hj
            · exact h2 j hj r hr f hf
            · simp at hj
              subst hj
              rw [hx] at hr
              cases hr
              rw [ht] at hf
              cases hf
              exact ⟨m0, hg, by omega⟩
/-- Does the Med of the one with number j count as the least? -/
def yMed (all : List Rt) (lo : Int → Option Int) (j : Nat) : Bool := match all[j]? with
  | none => true
  | some r => match firstP r.att.path with
    | none => true
    | some f => decide (medA r.att = (lo f).getD 0)
theorem yMed_no {all : List Rt} {lo : Int → Option Int} {j : Nat} {r : Rt} (h : all[j]? = some r) (hf : firstP r.att.path = none) : yMed all lo j = true := by
  unfold yMed
  rw [h]
  simp only [hf]
theorem yMed_at {all : List Rt} {lo : Int → Option Int} {j : Nat} {r : Rt} {f : Int} (h : all[j]? = some r) (hf : firstP r.att.path = some f) : yMed all lo j = decide (medA r.att = (lo f).getD 0) := by
  unfold yMed
  rw [h]
  simp only [hf]
theorem yMed_is {all : List Rt} {js : List Nat} (hq : ∀ j ∈ js, j < all.length) {j : Nat} (hj : j ∈ js) {r : Rt} (hr : all[j]? = some r) : yMed all (loF all js) j = !(pickL all js).any (lower r) := by
  obtain ⟨h1, h2⟩ := loF_spec all _ js rfl
  obtain ⟨p1, p2⟩ := pickL_all all js hq
  cases hf : firstP r.att.path with
  | none =>
    rw [yMed_no hr hf]
    have : (pickL all js).any (lower r) = false := any_no _ fun k o hk => by unfold lower; rw [hf]
    rw [this]
    rfl
  | some f =>
    rw [yMed_at hr hf]
    obtain ⟨m, hm, hle⟩ := h2 j hj r hr f hf
    obtain ⟨i, hi, o, ho, hof, hom⟩ := h1 f m hm
    rw [hm]
    show decide (medA r.att = m) = _
    by_cases he : medA r.att = m
    · have : (pickL all js).any (lower r) = false := any_no _ fun k x hk => by
        have hkl : k < js.length := by rw [← p1]; exact (List.getElem?_eq_some_iff.1 hk).1
        obtain ⟨o', ho', hp⟩ := p2 k _ (List.getElem?_eq_getElem hkl)
        rw [hk] at hp
        cases hp
        unfold lower
        rw [hf]
        cases hx : firstP x.att.path with
        | none => rfl
        | some g =>
          simp only
          by_cases e : f = g
          · subst e
            obtain ⟨m2, hm2, hle2⟩ := h2 _ (List.getElem_mem hkl) x ho' f hx
            rw [hm] at hm2
            cases hm2
            have : ¬ medA x.att < medA r.att := by omega
            simp [this]
          · simp [e]
      rw [this]
      simp [he]
    · obtain ⟨k, hk⟩ := List.getElem?_of_mem hi
      obtain ⟨o', ho', hp⟩ := p2 k i hk
      rw [ho] at ho'
      cases ho'
      have : (pickL all js).any (lower r) = true := any_yes hp (by
        unfold lower
        rw [hf, hof]
        simp
        omega)
      rw [this]
      simp [he]
/-- There is always one whose Med is the least. -/
theorem yMed_some (all : List Rt) (js : List Nat) (hq : ∀ j ∈ js, j < all.length) (hne : js ≠ []) : (js.filter (yMed all (loF all js))).length ≠ 0 := by
  obtain ⟨h1, h2⟩ := loF_spec all _ js rfl
  obtain ⟨x, hx⟩ := List.exists_mem_of_ne_nil js hne
  have hxr : all[x]? = some (all[x]'(hq x hx)) := List.getElem?_eq_getElem _
  have one : ∀ j ∈ js, yMed all (loF all js) j = true → (js.filter (yMed all (loF all js))).length ≠ 0 := fun j hj hy h0 => by
    have : j ∈ js.filter (yMed all (loF all js)) := List.mem_filter.2 ⟨hj, hy⟩
    rw [List.length_eq_zero_iff.1 h0] at this
    cases this
  cases hf : firstP (all[x]'(hq x hx)).att.path with
  | none =>
    exact one x hx (yMed_no hxr hf)
  | some f =>
    obtain ⟨m, hm, hle⟩ := h2 x hx _ hxr f hf
    obtain ⟨i, hi, o, ho, hof, hom⟩ := h1 f m hm
    refine one i hi ?_
    rw [yMed_at ho hof, hm]
    simpa using hom
theorem stepB_least (step : Nat) (num : Int) (infos : List Inf) (all : List Rt) (js : List Nat) : stepB step num infos all js = leastL (scoreJ step num infos all js) js := rfl
theorem scoreJ_at {step : Nat} {num : Int} {infos : List Inf} {all : List Rt} {js : List Nat} {j : Nat} {r : Rt} (h : all[j]? = some r) : scoreJ step num infos all js j = scoreR step num infos (pickL all js) r := by
  unfold scoreJ
  rw [h]
theorem step5_is (num : Int) (infos : List Inf) (all : List Rt) (js : List Nat) (hq : ∀ j ∈ js, j < all.length) : js.filter (yMed all (loF all js)) = stepB 5 num infos all js := by
  rw [stepB_least]
  cases js with
  | nil => rfl
  | cons x l =>
    have hne : x :: l ≠ [] := by simp
    generalize x :: l = js at *
    rw [leastL_congr (g := fun j => if yMed all (loF all js) j = true then 0 else 1) (fun j hj => ?_), leastL_two]
    · unfold ratherL
      rw [if_neg (yMed_some all js hq hne)]
    · have hr : all[j]? = some (all[j]'(hq j hj)) := List.getElem?_eq_getElem _
      rw [scoreJ_at hr, yMed_is hq hj hr]
      show (if (pickL all js).any (lower (all[j]'(hq j hj))) = true then (1 : Int) else 0) = _
      cases (pickL all js).any (lower (all[j]'(hq j hj))) <;> rfl
/-- A step by what is wanted of a route. -/
theorem step_rather (step : Nat) (num : Int) (infos : List Inf) (all : List Rt) (js : List Nat) (hq : ∀ j ∈ js, j < all.length) (y : Nat → Bool) (h : ∀ j r, all[j]? = some r → scoreR step num infos (pickL all js) r = if y j = true then 0 else 1) : ratherL y js = stepB step num infos all js := by
  rw [stepB_least, ← leastL_two]
  refine leastL_congr fun j hj => ?_
  have hr : all[j]? = some (all[j]'(hq j hj)) := List.getElem?_eq_getElem _
  rw [scoreJ_at hr, h j _ hr]
theorem step_least (step : Nat) (num : Int) (infos : List Inf) (all : List Rt) (js : List Nat) (hq : ∀ j ∈ js, j < all.length) (f : Nat → Int) (h : ∀ j r, all[j]? = some r → scoreR step num infos (pickL all js) r = f j) : leastL f js = stepB step num infos all js := by
  rw [stepB_least]
  refine leastL_congr fun j hj => ?_
  have hr : all[j]? = some (all[j]'(hq j hj)) := List.getElem?_eq_getElem _
  rw [scoreJ_at hr, h j _ hr]
theorem stepB_ne {step : Nat} {num : Int} {infos : List Inf} {all : List Rt} {js : List Nat} (h : js ≠ []) : stepB step num infos all js ≠ [] := leastL_ne h
end Go.Proofs.Ytolpaimmmhoiiaa
