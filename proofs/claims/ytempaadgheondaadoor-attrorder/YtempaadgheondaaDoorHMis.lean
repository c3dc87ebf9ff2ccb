/- The attributes of good ones, cut out of their bytes; those that are left when some lack (plain). -/
import Derived.Test.YtempaadgheondaaDoorAtQz
import Derived.Test.YtempaadgheondaaDoorHPlain
import Derived.Test.YtempaadgheondaaDoorAtW
import Derived.Test.YtempaadgheondaaDoorAtQ5
import Derived.Test.YtempaadgheondaaDoorAtSl
import Derived.Test.YtempaadgheondaaDoorHRaw
import Derived.Test.YtempaadgheondaaDoorAtEn
import Derived.Test.YtempaadgheondaaDoorHGl
import Derived.Test.YtempaadgheondaaDoorAtFr
import Derived.Test.YtempaadgheondaaDoorLater
import Derived.Deep.DeepCutAuto
import Derived.Deep.QuietTactic
import Derived.BigQuiet
namespace Go.Proofs.YtempaadgheondaaDoor
open Go.RowKit
set_option maxRecDepth 100000

theorem flat_cut (P : List (Nat × Nat × List Nat)) (k : Nat) (hk : k < P.length) : flatA P = flatA (P.take k) ++ (oneB P[k].1 P[k].2.1 P[k].2.2 ++ flatA (P.drop (k + 1))) := by
  have h1 : P = P.take k ++ (P[k] :: P.drop (k + 1)) := by rw [List.getElem_cons_drop, List.take_append_drop]
  have h2 := congrArg flatA h1
  rw [flatA_app, flatA] at h2
  exact h2
/-- What a part's first bytes tell. -/
structure CutAt (E : List Nat) (o ty n : Nat) (B : List Nat) (b0 b2 b3 : Nat) : Prop where
  c0 : E[o]? = some b0
  c1 : E[o + 1]? = some ty
  c2 : E[o + 2]? = some b2
  l0 : b0 < 256
  l2 : b2 < 256
  l3 : b3 < 256
  n3 : 3 ≤ n
  le : o + n ≤ E.length
  cut : (E.drop o).take n = B
  len : B.length = n
  way : b0 / 16 % 2 = 0 ∧ n = 3 + b2 ∨ b0 / 16 % 2 = 1 ∧ n = 4 + 256 * b2 + b3 ∧ E[o + 3]? = some b3
theorem cut_at (P : List (Nat × Nat × List Nat)) (k : Nat) (hk : k < P.length) (h1 : P[k].1 < 240) (h2 : P[k].1 / 16 % 2 = 0) (h4 : P[k].2.2.length ≤ 60000) :
    ∃ b0 b2 b3, CutAt (flatA P) (flatA (P.take k)).length P[k].2.1 (oneB P[k].1 P[k].2.1 P[k].2.2).length (oneB P[k].1 P[k].2.1 P[k].2.2) b0 b2 b3 := by
  have hc := flat_cut P k hk
  generalize flatA (P.take k) = A at *
  generalize flatA (P.drop (k + 1)) = C at *
  generalize P[k].1 = fl at *
  generalize P[k].2.1 = ty at *
  generalize P[k].2.2 = d at *
  generalize flatA P = E at *
  subst hc
  have at1 : ∀ (B : List Nat) j x, B[j]? = some x → (A ++ (B ++ C))[A.length + j]? = some x := fun B j x hx => by
    have hj := (List.getElem?_eq_some_iff.1 hx).1
    rw [List.getElem?_append_right (by omega), Nat.add_sub_cancel_left, List.getElem?_append_left hj]
    exact hx
  have ct : ∀ B : List Nat, ((A ++ (B ++ C)).drop A.length).take B.length = B := fun B => by
    rw [List.drop_left, List.take_left]
  have hle : ∀ B : List Nat, A.length + B.length ≤ (A ++ (B ++ C)).length := fun B => by simp only [List.length_append]; omega
  by_cases h5 : 255 < d.length
  · have e : oneB fl ty d = [fl + 16, ty, d.length / 256, d.length % 256] ++ d := by unfold oneB; rw [if_pos h5]
    have en : (oneB fl ty d).length = 4 + d.length := by rw [e]; simp; omega
    refine ⟨fl + 16, d.length / 256, d.length % 256, at1 _ 0 _ (by rw [e]; rfl), at1 _ 1 _ (by rw [e]; rfl), at1 _ 2 _ (by rw [e]; rfl), by omega, by omega, by omega, by omega, hle _, ct _, rfl, .inr ⟨by omega, by omega, at1 _ 3 _ (by rw [e]; rfl)⟩⟩
  · have e : oneB fl ty d = [fl, ty, d.length] ++ d := by unfold oneB; rw [if_neg h5]
    have en : (oneB fl ty d).length = 3 + d.length := by rw [e]; simp; omega
    refine ⟨fl, d.length, 0, at1 _ 0 _ (by rw [e]; rfl), at1 _ 1 _ (by rw [e]; rfl), at1 _ 2 _ (by rw [e]; rfl), by omega, by omega, by omega, by omega, hle _, ct _, rfl, .inl ⟨by omega, by omega⟩⟩
/-- Does an attribute of that type lack? -/
def lackB (lack ty : Nat) : Bool := decide (ty ≤ 3) && decide (lack / 2 ^ ty % 2 = 1)
/-- Those that do not. -/
def keepL (lack : Nat) (P : List (Nat × Nat × List Nat)) : List (Nat × Nat × List Nat) := P.filter fun p => !lackB lack p.2.1
/-- The first that lacks. -/
def leastL (lack : Nat) : List (Nat × Nat × List Nat) → Nat → Nat
  | [], m => m
  | p :: l, m => leastL lack l (if lackB lack p.2.1 && decide (m = 0) then p.2.1 else m)
theorem leastL_snoc (lack : Nat) (l : List (Nat × Nat × List Nat)) (p : Nat × Nat × List Nat) : ∀ m, leastL lack (l ++ [p]) m = if lackB lack p.2.1 && decide (leastL lack l m = 0) then p.2.1 else leastL lack l m := by
  induction l with
  | nil => intro m; rfl
  | cons q l ih => intro m; exact ih _
theorem keepL_snoc (lack : Nat) (l : List (Nat × Nat × List Nat)) (p : Nat × Nat × List Nat) : flatA (keepL lack (l ++ [p])) = flatA (keepL lack l) ++ (if lackB lack p.2.1 then [] else oneB p.1 p.2.1 p.2.2) := by
  unfold keepL
  rw [List.filter_append, flatA_app]
  congr 1
  cases h : lackB lack p.2.1
  · simp [h, flatA]
  · simp [h, flatA]
theorem keepL_le (lack : Nat) (l : List (Nat × Nat × List Nat)) : (flatA (keepL lack l)).length ≤ (flatA l).length := by
  induction l with
  | nil => exact Nat.le_refl _
  | cons p l ih =>
    unfold keepL at ih ⊢
    rw [List.filter_cons]
    split
    · rw [flatA, flatA, List.length_append, List.length_append]; omega
    · rw [flatA, List.length_append]; omega
theorem keepL_mem (lack : Nat) (l : List (Nat × Nat × List Nat)) : ∀ x ∈ flatA (keepL lack l), x ∈ flatA l := by
  induction l with
  | nil => exact fun _ h => h
  | cons p l ih =>
    intro x hx
    unfold keepL at ih hx
    rw [List.filter_cons] at hx
    rw [flatA, List.mem_append]
    split at hx
    · rw [flatA, List.mem_append] at hx
      exact hx.imp id (ih x)
    · exact .inr (ih x hx)
theorem leastL_stay (lack : Nat) : ∀ (l : List (Nat × Nat × List Nat)) (m : Nat), (m ≠ 0 ∨ ∀ p ∈ l, lackB lack p.2.1 = false) → leastL lack l m = m
  | [], _, _ => rfl
  | p :: l, m, h => by
    rw [leastL]
    have e : (if lackB lack p.2.1 && decide (m = 0) then p.2.1 else m) = m := by
      rcases h with h | h
      · rw [decide_eq_false h, Bool.and_false]; rfl
      · rw [h p List.mem_cons_self]; rfl
    rw [e]
    exact leastL_stay lack l m (h.imp id fun h q hq => h q (List.mem_cons_of_mem _ hq))
/-- What is read of those that do not lack. -/
theorem read_keep {a : At} (h : Fine a) (lack : Nat) : (leastL lack (partsA a) 0 = 0 ∧ ∃ b, readA (flatA (keepL lack (partsA a))) = .inr b) ∨ (leastL lack (partsA a) 0 ≠ 0 ∧ leastL lack (partsA a) 0 < 256 ∧ readA (flatA (keepL lack (partsA a))) = .inl (3, 3, [leastL lack (partsA a) 0])) := by
  have hr := read_some h (keepL lack (partsA a)) (fun p hp => (List.mem_filter.1 hp).1) (((parts_rise h).imp fun h => Nat.ne_of_lt h).filter _)
  obtain ⟨R, hR⟩ : ∃ R, partsA a = [(64, 1, [a.origin.toNat]), (64, 2, encSegs a.path), (64, 3, b4 (a.next : Int))] ++ R := by
    unfold partsA
    simp only [List.append_assoc]
    exact ⟨_, rfl⟩
  have hR3 : ∀ p ∈ R, 3 < p.2.1 := fun p hp => by
    have h9 := parts_rise h
    rw [hR] at h9
    exact (List.pairwise_append.1 h9).2.2 _ (by simp : ((64, 3, b4 (a.next : Int)) : Nat × Nat × List Nat) ∈ _) p hp
  have hRl : ∀ p ∈ R, lackB lack p.2.1 = false := fun p hp => by
    unfold lackB
    rw [decide_eq_false (by have := hR3 p hp; omega)]
    rfl
  have mem : ∀ t, t ≤ 3 → 1 ≤ t → (t ∈ (tysA (keepL lack (partsA a))).reverse ↔ lackB lack t = false) := fun t h3 h1 => by
    rw [List.mem_reverse]
    unfold tysA keepL
    rw [List.mem_map]
    constructor
    · rintro ⟨p, hp, rfl⟩
      simpa using (List.mem_filter.1 hp).2
    · intro hl
      have : ∃ p ∈ partsA a, p.2.1 = t := by
        rw [hR]
        have : t = 1 ∨ t = 2 ∨ t = 3 := by omega
        rcases this with rfl | rfl | rfl
        · exact ⟨_, List.mem_append_left _ (List.mem_cons_self), rfl⟩
        · exact ⟨_, List.mem_append_left _ (List.mem_cons_of_mem _ List.mem_cons_self), rfl⟩
        · exact ⟨_, List.mem_append_left _ (List.mem_cons_of_mem _ (List.mem_cons_of_mem _ List.mem_cons_self)), rfl⟩
      obtain ⟨p, hp, e⟩ := this
      exact ⟨p, List.mem_filter.2 ⟨hp, by rw [e, hl]; rfl⟩, e⟩
  have m1 := mem 1 (by decide) (by decide)
  have m2 := mem 2 (by decide) (by decide)
  have m3 := mem 3 (by decide) (by decide)
  have hl : leastL lack (partsA a) 0 = if lackB lack 1 then 1 else if lackB lack 2 then 2 else if lackB lack 3 then 3 else 0 := by
    rw [hR]
    simp only [List.cons_append, List.nil_append, leastL]
    cases l1 : lackB lack 1 <;> cases l2 : lackB lack 2 <;> cases l3 : lackB lack 3 <;> simp <;> exact leastL_stay lack R _ (by first | exact .inr hRl | exact .inl (by decide))
  rw [hr]
  unfold finA
  cases l1 : lackB lack 1
  · rw [l1] at m1
    rw [if_neg (by simpa using m1)]
    cases l2 : lackB lack 2
    · rw [l2] at m2
      rw [if_neg (by simpa using m2)]
      cases l3 : lackB lack 3
      · rw [l3] at m3
        rw [if_neg (by simpa using m3)]
        refine .inl ⟨by rw [hl, l1, l2, l3]; rfl, _, rfl⟩
      · rw [l3] at m3
        rw [if_pos (by simpa using m3)]
        have e : leastL lack (partsA a) 0 = 3 := by rw [hl, l1, l2, l3]; rfl
        exact .inr ⟨by rw [e]; decide, by rw [e]; decide, by rw [e]⟩
    · rw [l2] at m2
      rw [if_pos (by simpa using m2)]
      have e : leastL lack (partsA a) 0 = 2 := by rw [hl, l1, l2]; rfl
      exact .inr ⟨by rw [e]; decide, by rw [e]; decide, by rw [e]⟩
  · rw [l1] at m1
    rw [if_pos (by simpa using m1)]
    have e : leastL lack (partsA a) 0 = 1 := by rw [hl, l1]; rfl
    exact .inr ⟨by rw [e]; decide, by rw [e]; decide, by rw [e]⟩
end Go.Proofs.YtempaadgheondaaDoor
/- AttrMissing's walk: its body. -/
namespace Go.Proofs.YtempaadgheondaaDoor
open Go.RowKit
set_option maxRecDepth 100000

set_option maxHeartbeats 1600000 in
theorem amiss_no (o1 : Int) (pa1 : Option Addr) (pn1 pc1 : Nat) (nx1 : Nat) (md1 pf1 : Int) (ca1 : Option Addr) (cn1 cc1 : Nat) (ra1 : Option Addr) (rn1 rc1 : Nat) (s g : Bool) (z1 : Int) (w : World) (hsg : s = false ∨ g = false)
    (KA : Hid (∀ W, Below w.heap.size w W → Calls Tryd.prog 10 #[] W fun e w' => e = .returned (.bool true) ∧ Below W.heap.size W w'))
    (KM : Hid (∀ W, Below w.heap.size w W → Calls Tryd.prog 9 #[.agg #[.int .i64 o1, .slice pa1 pn1 pc1, .int .u32 (nx1 : Int), .int .i64 md1, .int .i64 pf1, .slice ca1 cn1 cc1, .slice ra1 rn1 rc1]] W fun e w' => e = .returned (.bool s) ∧ Below W.heap.size W w'))
    (KR : Hid (s = true → ∀ W, Below w.heap.size w W → Calls Tryd.prog 13 #[.agg #[.int .i64 o1, .slice pa1 pn1 pc1, .int .u32 (nx1 : Int), .int .i64 md1, .int .i64 pf1, .slice ca1 cn1 cc1, .slice ra1 rn1 rc1]] W fun e w' => e = .returned (.bool g) ∧ Below W.heap.size W w')) :
    Calls Tryd.prog 7 #[.agg #[.int .i64 o1, .slice pa1 pn1 pc1, .int .u32 (nx1 : Int), .int .i64 md1, .int .i64 pf1, .slice ca1 cn1 cc1, .slice ra1 rn1 rc1], .int .u8 z1] w fun e w' => e = .returned (.bool true) ∧ Below w.heap.size w w' := by
  obtain ⟨wb, hwb⟩ : ∃ wb, wb = w.alloc (.cells #[.int .i64 o1, .slice pa1 pn1 pc1, .int .u32 (nx1 : Int), .int .i64 md1, .int .i64 pf1, .slice ca1 cn1 cc1, .slice ra1 rn1 rc1] 27) := ⟨_, rfl⟩
  have HBb : Hid (Below w.heap.size w wb) := by show Below _ _ _; rw [hwb]; exact (Below.refl _ _).alloc (Nat.le_refl _) _
  have hPb : w.heap.size < wb.heap.size := by rw [hwb]; simp
  have C1 : Hid (∀ X, Below wb.heap.size wb X → X.cell? ⟨w.heap.size, 0, none⟩ = some (.int .i64 o1) ∧ X.cell? ⟨w.heap.size, 1, none⟩ = some (.slice pa1 pn1 pc1) ∧ X.cell? ⟨w.heap.size, 2, none⟩ = some (.int .u32 (nx1 : Int)) ∧ X.cell? ⟨w.heap.size, 3, none⟩ = some (.int .i64 md1) ∧ X.cell? ⟨w.heap.size, 4, none⟩ = some (.int .i64 pf1) ∧ X.cell? ⟨w.heap.size, 5, none⟩ = some (.slice ca1 cn1 cc1) ∧ X.cell? ⟨w.heap.size, 6, none⟩ = some (.slice ra1 rn1 rc1)) := fun X hb => by
    have k : ∀ j, X.cell? ⟨w.heap.size, j, none⟩ = wb.cell? ⟨w.heap.size, j, none⟩ := fun j => hb.cell (p := ⟨w.heap.size, j, none⟩) hPb
    simp only [k]
    rw [hwb]
    refine ⟨?_, ?_, ?_, ?_, ?_, ?_, ?_⟩ <;> simp [go_sem]
  go_enter Tryd.func7, Tryd.ntmps7
  go_wp2_with fail
  rw [← hwb]
  clear hwb
  refine (KM.out wb HBb.out).mono ?_
  rintro e w0 ⟨rfl, hb0⟩
  have HB0 : Hid (Below w.heap.size w w0) := HBb.out.trans (hb0.mono HBb.out.size)
  obtain ⟨x0, x1, x2, x3, x4, x5, x6⟩ := C1.out w0 hb0
  clear hb0 KM
  cases s with
  | false =>
    go_wp2_with fail
    refine (KA.out w0 HB0.out).mono ?_
    rintro e w1 ⟨rfl, hb1⟩
    have HB1 : Hid (Below w.heap.size w w1) := HB0.out.trans (hb1.mono HB0.out.size)
    clear hb1
    go_wp2
    go_ret
    exact ⟨rfl, HB1.out⟩
  | true =>
    have hg : g = false := by rcases hsg with h | h; cases h; exact h
    subst hg
    go_wp2_with fail
    refine (KR.out (by trivial) w0 HB0.out).mono ?_
    rintro e w1 ⟨rfl, hb1⟩
    have HB1 : Hid (Below w.heap.size w w1) := HB0.out.trans (hb1.mono HB0.out.size)
    clear hb1
    go_wp2_with fail
    refine (KA.out w1 HB1.out).mono ?_
    rintro e w2 ⟨rfl, hb2⟩
    have HB2 : Hid (Below w.heap.size w w2) := HB1.out.trans (hb2.mono HB1.out.size)
    clear hb2
    go_wp2
    go_ret
    exact ⟨rfl, HB2.out⟩
theorem brd_cell {w : World} {g : Nat} {E : List Nat} (h : BRd w (some ⟨g, 0, none⟩) E) {i x : Nat} (hx : E[i]? = some x) : w.cell? ⟨g, i, none⟩ = some (.int .u8 (x : Int)) := by
  have hi := (List.getElem?_eq_some_iff.1 hx).1
  obtain ⟨b, off, e, h5⟩ := h.1.2 (by omega)
  simp only [Option.some.injEq, Addr.mk.injEq, and_true] at e
  obtain ⟨rfl, rfl⟩ := e
  have h6 := h5 i hi
  rw [Nat.zero_add] at h6
  rw [h6]
  show some (Value.int .u8 ((E.getD i 0 : Nat) : Int)) = _
  rw [List.getD_eq_getElem?_getD, hx]
  rfl
/-- The bit that tells if a type lacks. -/
theorem lack_bit (lack ty : Nat) : ((((lack : Int) / 2 ^ ty).tmod 2) == 1) = decide (lack / 2 ^ ty % 2 = 1) := by
  have e : (lack : Int) / 2 ^ ty = ((lack / 2 ^ ty : Nat) : Int) := by simp
  rw [e, Int.tmod_eq_emod_of_nonneg (Int.natCast_nonneg _)]
  by_cases h : lack / 2 ^ ty % 2 = 1
  · rw [decide_eq_true h]
    exact beq_iff_eq.2 (by omega)
  · rw [decide_eq_false h]
    exact beq_false_of_ne (by omega)
section
attribute [local go_sem ↓] kept_append
set_option maxHeartbeats 6400000 in
theorem amiss_go (o1 : Int) (pa1 : Option Addr) (pn1 pc1 : Nat) (nx1 : Nat) (md1 pf1 : Int) (ca1 : Option Addr) (cn1 cc1 : Nat) (ra1 : Option Addr) (rn1 rc1 : Nat) (lack el np : Nat) (P : List (Nat × Nat × List Nat)) (k1 s1 : Int) (d1 : List Nat) (w : World)
    (hel : (flatA P).length = el) (hel5 : 5 ≤ el) (hel9 : el ≤ 9000) (hE : ∀ x ∈ flatA P, x < 256) (hnp : P.length = np)
    (HC : Hid (∀ k (h : k < P.length), P[k].2.1 < 256 ∧ ∃ b0 b2 b3, CutAt (flatA P) (flatA (P.take k)).length P[k].2.1 (oneB P[k].1 P[k].2.1 P[k].2.2).length (oneB P[k].1 P[k].2.1 P[k].2.2) b0 b2 b3))
    (hk1 : leastL lack P 0 = 0 ∧ k1 = 0 ∨ leastL lack P 0 ≠ 0 ∧ leastL lack P 0 < 256 ∧ k1 = 3 ∧ s1 = 3 ∧ d1 = [leastL lack P 0])
    (KA : Hid (∀ W, Below w.heap.size w W → Calls Tryd.prog 10 #[] W fun e w' => e = .returned (.bool true) ∧ Below W.heap.size W w'))
    (KM : Hid (∀ W, Below w.heap.size w W → Calls Tryd.prog 9 #[.agg #[.int .i64 o1, .slice pa1 pn1 pc1, .int .u32 (nx1 : Int), .int .i64 md1, .int .i64 pf1, .slice ca1 cn1 cc1, .slice ra1 rn1 rc1]] W fun e w' => e = .returned (.bool true) ∧ Below W.heap.size W w'))
    (KR : Hid (∀ W, Below w.heap.size w W → Calls Tryd.prog 13 #[.agg #[.int .i64 o1, .slice pa1 pn1 pc1, .int .u32 (nx1 : Int), .int .i64 md1, .int .i64 pf1, .slice ca1 cn1 cc1, .slice ra1 rn1 rc1]] W fun e w' => e = .returned (.bool true) ∧ Below W.heap.size W w'))
    (KAT : Hid (∀ W, Below w.heap.size w W → Calls Tryd.prog 15 #[.agg #[.int .i64 o1, .slice pa1 pn1 pc1, .int .u32 (nx1 : Int), .int .i64 md1, .int .i64 pf1, .slice ca1 cn1 cc1, .slice ra1 rn1 rc1]] W fun e w' => ∃ v, e = .returned v ∧ w'.ownsRow W.heap.size 5 1 v el (bcells (flatA P)) ∧ Below W.heap.size W w'))
    (KD1 : Hid (∀ W a9 n9 c9, Below w.heap.size w W → n9 = (flatA (keepL lack P)).length → n9 ≤ c9 → BRd W a9 (flatA (keepL lack P)) → Calls Tryd.prog 16 #[.slice a9 n9 c9] W fun e w' => ∃ q0 q1 q2 q3 q4 q5 q6 q7 q8 q9 q10 q11 q12 aa cc, e = .returned (.tuple #[.agg #[.int .i64 q0, .slice q1 q2 q3, .int .u32 q4, .int .i64 q5, .int .i64 q6, .slice q7 q8 q9, .slice q10 q11 q12], .agg #[.int .i64 k1, .int .i64 s1, .slice aa d1.length cc]]) ∧ BRd w' aa d1 ∧ Below W.heap.size W w')) :
    Calls Tryd.prog 7 #[.agg #[.int .i64 o1, .slice pa1 pn1 pc1, .int .u32 (nx1 : Int), .int .i64 md1, .int .i64 pf1, .slice ca1 cn1 cc1, .slice ra1 rn1 rc1], .int .u8 (lack : Int)] w fun e w' => e = .returned (.bool true) ∧ Below w.heap.size w w' := by
  obtain ⟨wb, hwb⟩ : ∃ wb, wb = w.alloc (.cells #[.int .i64 o1, .slice pa1 pn1 pc1, .int .u32 (nx1 : Int), .int .i64 md1, .int .i64 pf1, .slice ca1 cn1 cc1, .slice ra1 rn1 rc1] 27) := ⟨_, rfl⟩
  have HBb : Hid (Below w.heap.size w wb) := by show Below _ _ _; rw [hwb]; exact (Below.refl _ _).alloc (Nat.le_refl _) _
  have hPb : w.heap.size < wb.heap.size := by rw [hwb]; simp
  have C1 : Hid (∀ X, Below wb.heap.size wb X → X.cell? ⟨w.heap.size, 0, none⟩ = some (.int .i64 o1) ∧ X.cell? ⟨w.heap.size, 1, none⟩ = some (.slice pa1 pn1 pc1) ∧ X.cell? ⟨w.heap.size, 2, none⟩ = some (.int .u32 (nx1 : Int)) ∧ X.cell? ⟨w.heap.size, 3, none⟩ = some (.int .i64 md1) ∧ X.cell? ⟨w.heap.size, 4, none⟩ = some (.int .i64 pf1) ∧ X.cell? ⟨w.heap.size, 5, none⟩ = some (.slice ca1 cn1 cc1) ∧ X.cell? ⟨w.heap.size, 6, none⟩ = some (.slice ra1 rn1 rc1)) := fun X hb => by
    have k : ∀ j, X.cell? ⟨w.heap.size, j, none⟩ = wb.cell? ⟨w.heap.size, j, none⟩ := fun j => hb.cell (p := ⟨w.heap.size, j, none⟩) hPb
    simp only [k]
    rw [hwb]
    refine ⟨?_, ?_, ?_, ?_, ?_, ?_, ?_⟩ <;> simp [go_sem]
  have HK1 := hide hk1
  have HEL := hide hel
  have HE := hide hE
  have HNP := hide hnp
  have HKL : Hid (∀ k, (flatA (keepL lack (P.take k))).length ≤ 9000) := fun k => Nat.le_trans (keepL_le lack (P.take k)) (Nat.le_trans (flatA_le P k) (by rw [hel]; exact hel9))
  have HKX : Hid (∀ x ∈ flatA (keepL lack P), x < 256) := fun x hx => hE x (keepL_mem lack P x hx)
  clear hk1 hel hE hnp
  go_enter Tryd.func7, Tryd.ntmps7
  go_wp2_with fail
  rw [← hwb]
  clear hwb
  refine (KM.out wb HBb.out).mono ?_
  rintro e w0 ⟨rfl, hb0⟩
  have HW0 := hide hb0
  have HB0 : Hid (Below w.heap.size w w0) := HBb.out.trans (hb0.mono HBb.out.size)
  obtain ⟨x0, x1, x2, x3, x4, x5, x6⟩ := C1.out w0 hb0
  clear hb0 KM
  go_wp2_with fail
  refine (KR.out w0 HB0.out).mono ?_
  rintro e w1 ⟨rfl, hb1⟩
  have HW1 := hide (HW0.out.trans (hb1.mono HW0.out.size))
  have HB1 : Hid (Below w.heap.size w w1) := HB0.out.trans (hb1.mono HB0.out.size)
  clear hb1 KR x0 x1 x2 x3 x4 x5 x6
  obtain ⟨x0, x1, x2, x3, x4, x5, x6⟩ := C1.out w1 HW1.out
  go_wp2_with fail
  refine (KAT.out w1 HB1.out).mono ?_
  rintro e w2 ⟨v2, rfl, ho2, hb2⟩
  have HB2 : Hid (Below w.heap.size w w2) := HB1.out.trans (hb2.mono HB1.out.size)
  clear KAT x0 x1 x2 x3 x4 x5 x6 C1 HW0 HW1 HB0 hb2
  obtain ⟨g, c2, rfl, _, _⟩ := ho2.form (by omega)
  have ho2' : w2.ownsRow w1.heap.size 5 1 (.slice (some ⟨g, 0, none⟩) el c2) (flatA P).length (bcells (flatA P)) := by rw [HEL.out]; exact ho2
  obtain ⟨a2, c9, e2, hc2, hr2⟩ := own_brd ho2' (by rw [HEL.out]; omega) HE.out
  simp only [Value.slice.injEq] at e2
  obtain ⟨rfl, h99, rfl⟩ := e2
  clear h99
  rw [HEL.out] at hc2
  have HR2 := hide hr2
  clear ho2 ho2' hr2
  go_wp2
  go_loopw [6, 7, 8] (fun u l i wq => ∃ k : Nat, k ≤ np ∧ i = .int .i64 ((flatA (P.take k)).length : Int) ∧ l = .int .i64 (leastL lack (P.take k) 0 : Int) ∧ Hid (wq.ownsRow w2.heap.size 5 1 u (flatA (keepL lack (P.take k))).length (bcells (flatA (keepL lack (P.take k))))) ∧ Hid (Below w2.heap.size w2 wq)) (fun _ _ i _ => el - (intOf i).toNat)
  case atStart => exact ⟨0, Nat.zero_le _, rfl, rfl, own_nil _ _ _ _, Below.refl _ _⟩
  case round =>
    obtain ⟨k, hk, rfl, rfl, HO, HB⟩ := hrel
    by_cases hlt : k < np
    · have hkp : k < P.length := by rw [HNP.out]; exact hlt
      obtain ⟨hty, b0, b2, b3, hcut⟩ := HC.out k hkp
      have HT : Hid (flatA (P.take (k + 1)) = flatA (P.take k) ++ oneB P[k].1 P[k].2.1 P[k].2.2) := flatA_take P k hkp
      have HKS := hide (keepL_snoc lack (P.take k) P[k])
      have HLS := hide (leastL_snoc lack (P.take k) P[k] 0)
      have htk : P.take k ++ [P[k]] = P.take (k + 1) := (List.take_succ_eq_append_getElem hkp).symm
      rw [htk] at HKS HLS
      have hrw := HR2.out.below HB.out
      have y0 := brd_cell hrw hcut.c0
      have y1 := brd_cell hrw hcut.c1
      have y2 := brd_cell hrw hcut.c2
      have HCT := hide hcut
      have hoel := hcut.le
      have hn3 := hcut.n3
      have hb0 := hcut.l0
      have hb2 := hcut.l2
      have hb3 := hcut.l3
      have hway := hcut.way
      have HRW := hide hrw
      have hO1 : (flatA (P.take (k + 1))).length = (flatA (P.take k)).length + (oneB P[k].1 P[k].2.1 P[k].2.2).length := by rw [HT.out, List.length_append]
      rw [HEL.out] at hoel
      clear hcut htk hrw
      generalize P[k].2.1 = ty at *
      generalize hnn : (oneB P[k].1 ty P[k].2.2).length = n at *
      generalize hoo : (flatA (P.take k)).length = o at *
      have i0 : (0 : Int) ≤ (o : Int) := Int.natCast_nonneg _
      have i1 : (o : Int) < (el : Int) := by omega
      have i2 : (o : Int) + 1 < (el : Int) := by omega
      have i3 : (o : Int) + 2 < (el : Int) := by omega
      have ways : lackB lack ty = true ∧ (ty : Int) ≤ 3 ∧ (((lack : Int) / 2 ^ ty).tmod 2 == 1) = true ∨ lackB lack ty = false ∧ (ty : Int) ≤ 3 ∧ (((lack : Int) / 2 ^ ty).tmod 2 == 1) = false ∨ lackB lack ty = false ∧ decide ((ty : Int) ≤ 3) = false := by
        rw [lack_bit]
        unfold lackB
        by_cases h3 : ty ≤ 3
        · rw [decide_eq_true h3, Bool.true_and]
          cases hq : decide (lack / 2 ^ ty % 2 = 1)
          · exact .inr (.inl ⟨rfl, by omega, rfl⟩)
          · exact .inl ⟨rfl, by omega, rfl⟩
        · rw [decide_eq_false h3]
          exact .inr (.inr ⟨rfl, decide_eq_false (by omega)⟩)
      have hbcut : BRd wr (some ⟨g, o, none⟩) (oneB P[k].1 ty P[k].2.2) := by
        have h1 := brd_from HRW.out o n (by rw [HEL.out]; exact hoel)
        rw [Nat.zero_add, HCT.out.cut] at h1
        exact h1
      have HBC := hide hbcut
      have hco : ¬ c2 = o := by omega
      have i4 : (o : Int) + (n : Int) ≤ (el : Int) := by omega
      have i5 : (el : Int) ≤ (c2 : Int) := by omega
      clear hbcut hoo HC HT
      rcases hway with ⟨hw0, hw1⟩ | ⟨hw0, hw1, hw2⟩
      · have j0 : (b0 : Int) / 16 % 2 = 0 := by omega
        have j1 : (3 : Int) + (b2 : Int) = (n : Int) := by omega
        clear hw0 hw1
        obtain ⟨v5, w5, hr5, ho5, hb5⟩ := app_any (oneB P[k].1 ty P[k].2.2) (some ⟨g, o, none⟩) (c2 - o) HO.out HB.out.size (by have := HKL.out k; rw [hnn]; omega) HBC.out
        rw [hnn, show n = o + n - o by omega] at hr5
        have HR5 := hide hr5
        have HO5 := hide ho5
        have HB5 : Hid (Below w2.heap.size w2 w5) := HB.out.trans hb5
        clear hr5 ho5 hb5
        -- ways
        rcases ways with ⟨hl, t3, tm⟩ | ⟨hl, t3, tm⟩ | ⟨hl, t3⟩
        · rw [hl] at HLS HKS
          simp only [Bool.true_and, if_true, List.append_nil] at HLS HKS
          by_cases hz : leastL lack (P.take k) 0 = 0
          · rw [hz] at HLS ⊢
            have hz2 := HLS.out
            simp only [decide_true, if_true] at hz2
            go_wp2_with fail
            exact ⟨⟨k + 1, by omega, by rw [hO1]; go_num, by rw [hz2], by rw [HKS.out]; exact HO, HB⟩, by simp [intOf]; omega⟩
          · have hz2 := HLS.out
            rw [decide_eq_false hz] at hz2
            simp only [Bool.false_eq_true, if_false] at hz2
            have hzi : ((leastL lack (P.take k) 0 : Int) == 0) = false := beq_false_of_ne (by omega)
            go_wp2_with fail
            exact ⟨⟨k + 1, by omega, by rw [hO1]; go_num, by rw [hz2], by rw [HKS.out]; exact HO, HB⟩, by simp [intOf]; omega⟩
        · rw [hl] at HLS HKS
          simp only [Bool.false_and, Bool.false_eq_true, if_false] at HLS HKS
          go_wp2_with fail
          refine kept_append_intro _ _ u6 (.slice (some ⟨g, o, none⟩) (o + n - o) (c2 - o)) v5 (w' := w5) (by rfl) (by rfl) (by with_reducible exact HR5.out) ?_
          go_wp2_with fail
          exact ⟨⟨k + 1, by omega, by rw [hO1]; go_num, by rw [HLS.out], by rw [HKS.out]; exact HO5, HB5⟩, by simp [intOf]; omega⟩
        · rw [hl] at HLS HKS
          simp only [Bool.false_and, Bool.false_eq_true, if_false] at HLS HKS
          go_wp2_with fail
          refine kept_append_intro _ _ u6 (.slice (some ⟨g, o, none⟩) (o + n - o) (c2 - o)) v5 (w' := w5) (by rfl) (by rfl) (by with_reducible exact HR5.out) ?_
          go_wp2_with fail
          exact ⟨⟨k + 1, by omega, by rw [hO1]; go_num, by rw [HLS.out], by rw [HKS.out]; exact HO5, HB5⟩, by simp [intOf]; omega⟩
      · have j0 : (b0 : Int) / 16 % 2 = 1 := by omega
        have y3 := brd_cell HRW.out hw2
        have i6 : (o : Int) + 3 < (el : Int) := by omega
        have j1 : (4 : Int) + 256 * (b2 : Int) + (b3 : Int) = (n : Int) := by omega
        clear hw0 hw1 hw2
        go_wp2_with fail
        go_quiet (fail)
        have hbd : Below wr.heap.size wr (wr.drewN nq) := below_drewN (Below.refl _ _) nq
        have HOD := hide (own_later HO.out hbd)
        have HBD := hide (below_drewN HB.out nq)
        have HBCD := hide (HBC.out.below hbd)
        have y1d := (cell_drewN wr nq ⟨g, o + 1, none⟩).trans y1
        generalize wr.drewN nq = wd at *
        clear hbd
        obtain ⟨v5, w5, hr5, ho5, hb5⟩ := app_any (oneB P[k].1 ty P[k].2.2) (some ⟨g, o, none⟩) (c2 - o) HOD.out HBD.out.size (by have := HKL.out k; rw [hnn]; omega) HBCD.out
        rw [hnn, show n = o + n - o by omega] at hr5
        have HR5 := hide hr5
        have HO5 := hide ho5
        have HB5 : Hid (Below w2.heap.size w2 w5) := HBD.out.trans hb5
        clear hr5 ho5 hb5
        -- ways
        rcases ways with ⟨hl, t3, tm⟩ | ⟨hl, t3, tm⟩ | ⟨hl, t3⟩
        · rw [hl] at HLS HKS
          simp only [Bool.true_and, if_true, List.append_nil] at HLS HKS
          by_cases hz : leastL lack (P.take k) 0 = 0
          · rw [hz] at HLS ⊢
            have hz2 := HLS.out
            simp only [decide_true, if_true] at hz2
            go_wp2_with fail
            exact ⟨⟨k + 1, by omega, by rw [hO1]; go_num, by rw [hz2], by rw [HKS.out]; exact HOD, HBD⟩, by simp [intOf]; omega⟩
          · have hz2 := HLS.out
            rw [decide_eq_false hz] at hz2
            simp only [Bool.false_eq_true, if_false] at hz2
            have hzi : ((leastL lack (P.take k) 0 : Int) == 0) = false := beq_false_of_ne (by omega)
            go_wp2_with fail
            exact ⟨⟨k + 1, by omega, by rw [hO1]; go_num, by rw [hz2], by rw [HKS.out]; exact HOD, HBD⟩, by simp [intOf]; omega⟩
        · rw [hl] at HLS HKS
          simp only [Bool.false_and, Bool.false_eq_true, if_false] at HLS HKS
          go_wp2_with fail
          refine kept_append_intro _ _ u6 (.slice (some ⟨g, o, none⟩) (o + n - o) (c2 - o)) v5 (w' := w5) (by rfl) (by rfl) (by with_reducible exact HR5.out) ?_
          go_wp2_with fail
          exact ⟨⟨k + 1, by omega, by rw [hO1]; go_num, by rw [HLS.out], by rw [HKS.out]; exact HO5, HB5⟩, by simp [intOf]; omega⟩
        · rw [hl] at HLS HKS
          simp only [Bool.false_and, Bool.false_eq_true, if_false] at HLS HKS
          go_wp2_with fail
          refine kept_append_intro _ _ u6 (.slice (some ⟨g, o, none⟩) (o + n - o) (c2 - o)) v5 (w' := w5) (by rfl) (by rfl) (by with_reducible exact HR5.out) ?_
          go_wp2_with fail
          exact ⟨⟨k + 1, by omega, by rw [hO1]; go_num, by rw [HLS.out], by rw [HKS.out]; exact HO5, HB5⟩, by simp [intOf]; omega⟩
    · have hkl : P.take k = P := List.take_of_length_le (by rw [HNP.out]; omega)
      rw [hkl] at HO ⊢
      rw [HEL.out]
      obtain ⟨ls, hls⟩ : ∃ ls, ls = leastL lack P 0 := ⟨_, rfl⟩
      have hk1 := HK1.out
      rw [← hls] at hk1 ⊢
      obtain ⟨a9, c9, e9, hc9, hr9⟩ := own_brd HO.out (by have := HKL.out np; rw [List.take_of_length_le (by rw [HNP.out]; exact Nat.le_refl _)] at this; omega) HKX.out
      subst e9
      have hbw : Below w.heap.size w wr := HB2.out.trans (HB.out.mono HB2.out.size)
      have HD := hide (KD1.out wr a9 _ c9 hbw rfl hc9 hr9)
      generalize (flatA (keepL lack P)).length = sn at *
      have HBW := hide hbw
      clear HO HB hbw hr9 KD1 HC HR2 hls HKL HKX HK1 hkl
      go_wp2_with fail
      refine HD.out.mono ?_
      rintro e w6 ⟨q0, q1, q2, q3, q4, q5, q6, q7, q8, q9, q10, q11, q12, aa, ca, rfl, hba, hb6⟩
      have HB6 := hide (HBW.out.trans (hb6.mono HBW.out.size))
      have HBA := hide hba
      clear hba hb6 HD
      obtain ⟨w7, hw7⟩ : ∃ w7, w7 = (w6.alloc (.cells #[.int .i64 q0, .slice q1 q2 q3, .int .u32 q4, .int .i64 q5, .int .i64 q6, .slice q7 q8 q9, .slice q10 q11 q12] 27)).alloc (.cells #[.int .i64 k1, .int .i64 s1, .slice aa d1.length ca] 34) := ⟨_, rfl⟩
      have hb7 : Below w6.heap.size w6 w7 := by rw [hw7]; exact ((Below.refl _ _).alloc (Nat.le_refl _) _).alloc (by simp) _
      have hs7 : w7.heap.size = w6.heap.size + 1 + 1 := by rw [hw7]; simp
      have HB7 := hide (HB6.out.trans (hb7.mono HB6.out.size))
      have HA7 := hide (HBA.out.below hb7)
      have HN1 : Hid (∀ X, Below w7.heap.size w7 X → X.cell? ⟨w6.heap.size + 1, 0, none⟩ = some (.int .i64 k1) ∧ X.cell? ⟨w6.heap.size + 1, 1, none⟩ = some (.int .i64 s1) ∧ X.cell? ⟨w6.heap.size + 1, 2, none⟩ = some (.slice aa d1.length ca)) := fun X hb => by
        have k : ∀ j, X.cell? ⟨w6.heap.size + 1, j, none⟩ = w7.cell? ⟨w6.heap.size + 1, j, none⟩ := fun j => hb.cell (p := ⟨w6.heap.size + 1, j, none⟩) (by show w6.heap.size + 1 < _; omega)
        simp only [k]
        rw [hw7]
        have k2 : ∀ j, ((w6.alloc (.cells #[.int .i64 q0, .slice q1 q2 q3, .int .u32 q4, .int .i64 q5, .int .i64 q6, .slice q7 q8 q9, .slice q10 q11 q12] 27)).alloc (.cells #[.int .i64 k1, .int .i64 s1, .slice aa d1.length ca] 34)).cell? ⟨w6.heap.size + 1, j, none⟩ = #[.int .i64 k1, .int .i64 s1, .slice aa d1.length ca][j]? := fun j => by
          have h9 := World.cell?_alloc_mark (w6.alloc (.cells #[.int .i64 q0, .slice q1 q2 q3, .int .u32 q4, .int .i64 q5, .int .i64 q6, .slice q7 q8 q9, .slice q10 q11 q12] 27)) #[.int .i64 k1, .int .i64 s1, .slice aa d1.length ca] 34 (0, 0) j
          simp only [World.size_alloc] at h9
          exact h9
        simp only [k2]
        exact ⟨rfl, rfl, rfl⟩
      clear hs7 hb7 HB6 HBA HBW
      rcases hk1 with ⟨rfl, rfl⟩ | ⟨hz, hz2, rfl, rfl, rfl⟩
      · go_wp2_with fail
        rw [← hw7]
        clear hw7
        refine (KA.out w7 HB7.out).mono ?_
        rintro e w8 ⟨rfl, hb8⟩
        obtain ⟨n0, n1, n2⟩ := HN1.out w8 hb8
        have HB8 := hide (HB7.out.trans (hb8.mono HB7.out.size))
        clear hb8
        go_wp2
        go_ret
        exact ⟨rfl, HB8.out⟩
      · have hzi : ((ls : Int) == 0) = false := beq_false_of_ne (by omega)
        have hzw : (ls : Int) % 256 = (ls : Int) := by omega
        have e1 : [ls].length = 1 := rfl
        rw [e1] at hw7 HN1
        go_wp2_with fail
        rw [← hw7]
        clear hw7
        refine (KA.out w7 HB7.out).mono ?_
        rintro e w8 ⟨rfl, hb8⟩
        obtain ⟨n0, n1, n2⟩ := HN1.out w8 hb8
        have HB8 := hide (HB7.out.trans (hb8.mono HB7.out.size))
        have HA8 := hide (HA7.out.below hb8)
        clear hb8
        have hb9 : Below w8.heap.size w8 (w8.alloc (.cells #[.int .u8 (ls : Int)] 5)) := (Below.refl _ _).alloc (Nat.le_refl _) _
        have HK9 : Hid (Calls Tryd.prog 14 #[.slice aa 1 ca, .slice (some ⟨w8.heap.size, 0, none⟩) 1 1] (w8.alloc (.cells #[.int .u8 (ls : Int)] 5)) fun e w' => e = .returned (.bool true) ∧ Below w8.heap.size w8 w') := by
          have hrd : BRd (w8.alloc (.cells #[.int .u8 (ls : Int)] 5)) (some ⟨w8.heap.size, 0, none⟩) [ls] := by
            refine ⟨⟨by unfold maxLen; simp, fun _ => ⟨w8.heap.size, 0, rfl, fun i hi => ?_⟩⟩, fun x hx => by simp at hx; omega⟩
            have h0 : i = 0 := by simpa using hi
            subst h0
            rw [World.cell?_alloc_mark]
            rfl
          refine (samed_any aa (some ⟨w8.heap.size, 0, none⟩) ca 1 [ls] [ls] _ (by simp) (HA8.out.below hb9) hrd).mono fun e w' h9 => ?_
          obtain ⟨he, m, hm⟩ := h9
          refine ⟨by rw [he]; simp, ?_⟩
          rw [hm]
          exact below_drewN hb9 m
        clear hb9
        go_wp2_with fail
        refine HK9.out.mono ?_
        rintro e w9 ⟨rfl, hb9⟩
        have HB9 := hide (HB8.out.trans (hb9.mono HB8.out.size))
        clear hb9
        go_wp2
        go_ret
        exact ⟨rfl, HB9.out⟩
end
end Go.Proofs.YtempaadgheondaaDoor
