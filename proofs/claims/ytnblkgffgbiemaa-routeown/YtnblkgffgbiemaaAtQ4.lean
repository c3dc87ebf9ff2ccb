/- The program's Same of attributes. -/
import Derived.Test.YtnblkgffgbiemaaAtQ3
import Derived.Test.YtnblkgffgbiemaaAtSm
namespace Go.Proofs.Ytnblkgffgbiemaa
open Go.RowKit
set_option maxRecDepth 100000

theorem sumP_in : ∀ (l : List (Bool × List Int)) (s : Bool × List Int), s ∈ l → s.2.length ≤ sumP l
  | [], s, h => by simp at h
  | t :: l, s, h => by
    rcases List.mem_cons.1 h with rfl | h9
    · simp only [sumP]; omega
    · have := sumP_in l s h9
      simp only [sumP]; omega
theorem sumR_in : ∀ (l : List (Int × Int × List Nat)) (s : Int × Int × List Nat), s ∈ l → s.2.2.length ≤ sumR l
  | [], s, h => by simp at h
  | t :: l, s, h => by
    rcases List.mem_cons.1 h with rfl | h9
    · simp only [sumR]; omega
    · have := sumR_in l s h9
      simp only [sumR]; omega
theorem efs_any (a1 a2 : Option Addr) (c1 c2 n1 n2 : Nat) (p q : List (Bool × List Int)) (w : World) (hp : p.length = n1) (hq : q.length = n2) (hs : n1 + sumP p ≤ 100000) (h1 : PthRd w a1 p) (h2 : PthRd w a2 q) :
    Calls Try.prog 35 #[.slice a1 n1 c1, .slice a2 n2 c2, .func (.func 36) #[] #[]] w fun e w' => e = .returned (.bool (decide (p = q))) ∧ Below w.heap.size w w' := by
  by_cases hl : n1 = n2
  · subst hl
    by_cases h0 : n1 = 0
    · subst h0
      rw [decide_eq_true (by rw [List.eq_nil_of_length_eq_zero hp, List.eq_nil_of_length_eq_zero hq])]
      exact efs_empty a1 a2 c1 c2 w
    · obtain ⟨f1, e1, rfl, g1⟩ := h1.cells (by omega)
      obtain ⟨f2, e2, rfl, g2⟩ := h2.cells (by omega)
      exact efs_some f1 e1 f2 e2 n1 c1 c2 p q w hp hq (by omega) (fun s hs2 => by have := sumP_in p s hs2; omega) g1 g2
  · rw [decide_eq_false (fun e => hl (by rw [← hp, ← hq, e]))]
    exact efs_len a1 a2 n1 n2 c1 c2 w hl
theorem efr_any (a1 a2 : Option Addr) (c1 c2 n1 n2 : Nat) (p q : List (Int × Int × List Nat)) (w : World) (hp : p.length = n1) (hq : q.length = n2) (hs : n1 + sumR p ≤ 100000) (h1 : RawRd w a1 p) (h2 : RawRd w a2 q) :
    Calls Try.prog 38 #[.slice a1 n1 c1, .slice a2 n2 c2, .func (.func 39) #[] #[]] w fun e w' => e = .returned (.bool (decide (p = q))) ∧ Below w.heap.size w w' := by
  by_cases hl : n1 = n2
  · subst hl
    by_cases h0 : n1 = 0
    · subst h0
      rw [decide_eq_true (by rw [List.eq_nil_of_length_eq_zero hp, List.eq_nil_of_length_eq_zero hq])]
      exact efr_empty a1 a2 c1 c2 w
    · obtain ⟨f1, e1, rfl, g1⟩ := h1 (by omega)
      obtain ⟨f2, e2, rfl, g2⟩ := h2 (by omega)
      exact efr_some f1 e1 f2 e2 n1 c1 c2 p q w hp hq (by omega) (fun s hs2 => by have := sumR_in p s hs2; omega) g1 g2
  · rw [decide_eq_false (fun e => hl (by rw [← hp, ← hq, e]))]
    exact efr_len a1 a2 n1 n2 c1 c2 w hl
set_option maxHeartbeats 3200000 in
theorem same_plain (o1 : Int) (pa1 : Option Addr) (pn1 pc1 : Nat) (nx1 : Nat) (md1 pf1 : Int) (ca1 : Option Addr) (cn1 cc1 : Nat) (ra1 : Option Addr) (rn1 rc1 : Nat) (o2 : Int) (pa2 : Option Addr) (pn2 pc2 : Nat) (nx2 : Nat) (md2 pf2 : Int) (ca2 : Option Addr) (cn2 cc2 : Nat) (ra2 : Option Addr) (rn2 rc2 : Nat) (bp bc br : Bool) (w : World)
    (KP : Hid (∀ w1, Below w.heap.size w w1 → Calls Try.prog 35 #[.slice pa1 pn1 pc1, .slice pa2 pn2 pc2, .func (.func 36) #[] #[]] w1 fun e w' => e = .returned (.bool bp) ∧ Below w1.heap.size w1 w'))
    (KC : Hid (∀ w1, Below w.heap.size w w1 → Calls Try.prog 37 #[.slice ca1 cn1 cc1, .slice ca2 cn2 cc2] w1 fun e w' => e = .returned (.bool bc) ∧ ∃ m, w' = w1.drewN m))
    (KR : Hid (∀ w1, Below w.heap.size w w1 → Calls Try.prog 38 #[.slice ra1 rn1 rc1, .slice ra2 rn2 rc2, .func (.func 39) #[] #[]] w1 fun e w' => e = .returned (.bool br) ∧ Below w1.heap.size w1 w')) :
    Calls Try.prog 24 #[.agg #[.int .i64 o1, .slice pa1 pn1 pc1, .int .u32 (nx1 : Int), .int .i64 md1, .int .i64 pf1, .slice ca1 cn1 cc1, .slice ra1 rn1 rc1], .agg #[.int .i64 o2, .slice pa2 pn2 pc2, .int .u32 (nx2 : Int), .int .i64 md2, .int .i64 pf2, .slice ca2 cn2 cc2, .slice ra2 rn2 rc2]] w fun e w' => e = .returned (.bool (decide (o1 = o2) && decide ((nx1 : Int) = (nx2 : Int)) && decide (md1 = md2) && decide (pf1 = pf2) && bp && bc && br)) ∧ Below w.heap.size w w' := by
  have hbb : Below w.heap.size w ((w.alloc (.cells #[.int .i64 o1, .slice pa1 pn1 pc1, .int .u32 (nx1 : Int), .int .i64 md1, .int .i64 pf1, .slice ca1 cn1 cc1, .slice ra1 rn1 rc1] 29)).alloc (.cells #[.int .i64 o2, .slice pa2 pn2 pc2, .int .u32 (nx2 : Int), .int .i64 md2, .int .i64 pf2, .slice ca2 cn2 cc2, .slice ra2 rn2 rc2] 29)) := ((Below.refl _ _).alloc (Nat.le_refl _) _).alloc (by simp) _
  have HBB := hide hbb
  clear hbb
  have k1 : (o1 == o2) = decide (o1 = o2) := rfl
  have k2 : ((nx1 : Int) == (nx2 : Int)) = decide ((nx1 : Int) = (nx2 : Int)) := rfl
  have k3 : (md1 == md2) = decide (md1 = md2) := rfl
  have k4 : (pf1 == pf2) = decide (pf1 = pf2) := rfl
  generalize decide (o1 = o2) = b1 at *
  generalize decide ((nx1 : Int) = (nx2 : Int)) = b2 at *
  generalize decide (md1 = md2) = b3 at *
  generalize decide (pf1 = pf2) = b4 at *
  go_enter Try.func24, Try.ntmps24
  cases b1 with
  | false => go_wp2; go_ret; exact ⟨by simp, HBB.out⟩
  | true =>
  cases b2 with
  | false => go_wp2; go_ret; exact ⟨by simp, HBB.out⟩
  | true =>
  cases b3 with
  | false => go_wp2; go_ret; exact ⟨by simp, HBB.out⟩
  | true =>
  cases b4 with
  | false => go_wp2; go_ret; exact ⟨by simp, HBB.out⟩
  | true =>
    go_wp2_with fail
    refine (KP.out _ HBB.out).mono ?_
    rintro e w1 ⟨rfl, hb1⟩
    have q5 : w1.cell? ⟨w.heap.size, 5, none⟩ = some (.slice ca1 cn1 cc1) := by rw [hb1.cell (p := ⟨w.heap.size, 5, none⟩) (by simp; omega)]; simp [go_sem]
    have r5 : w1.cell? ⟨w.heap.size + 1, 5, none⟩ = some (.slice ca2 cn2 cc2) := by rw [hb1.cell (p := ⟨w.heap.size + 1, 5, none⟩) (by simp)]; simp [go_sem]
    have q6 : w1.cell? ⟨w.heap.size, 6, none⟩ = some (.slice ra1 rn1 rc1) := by rw [hb1.cell (p := ⟨w.heap.size, 6, none⟩) (by simp; omega)]; simp [go_sem]
    have r6 : w1.cell? ⟨w.heap.size + 1, 6, none⟩ = some (.slice ra2 rn2 rc2) := by rw [hb1.cell (p := ⟨w.heap.size + 1, 6, none⟩) (by simp)]; simp [go_sem]
    have HB1 : Hid (Below w.heap.size w w1) := HBB.out.trans (hb1.mono HBB.out.size)
    clear hb1 KP HBB
    cases bp with
    | false => go_wp2; go_ret; exact ⟨by simp, HB1.out⟩
    | true =>
      go_wp2_with fail
      refine (KC.out _ HB1.out).mono ?_
      rintro e w2 ⟨rfl, m, hm⟩
      have s6 : w2.cell? ⟨w.heap.size, 6, none⟩ = some (.slice ra1 rn1 rc1) := by rw [hm, cell_drewN]; exact q6
      have t6 : w2.cell? ⟨w.heap.size + 1, 6, none⟩ = some (.slice ra2 rn2 rc2) := by rw [hm, cell_drewN]; exact r6
      have HB2 : Hid (Below w.heap.size w w2) := by show Below _ _ _; rw [hm]; exact below_drewN HB1.out m
      clear hm KC HB1 q5 r5 q6 r6
      cases bc with
      | false => go_wp2; go_ret; exact ⟨by simp, HB2.out⟩
      | true =>
        go_wp2_with fail
        refine (KR.out _ HB2.out).mono ?_
        rintro e w3 ⟨rfl, hb3⟩
        have HB3 : Hid (Below w.heap.size w w3) := HB2.out.trans (hb3.mono HB2.out.size)
        clear hb3 KR HB2
        go_wp2
        go_ret
        exact ⟨by simp, HB3.out⟩
theorem eqA_parts (a b : At) : (decide (a.origin = b.origin) && decide ((a.next : Int) = (b.next : Int)) && decide (a.med = b.med) && decide (a.pref = b.pref) && decide (a.path = b.path) && decide (a.comms = b.comms) && decide (a.raws = b.raws)) = eqA a b := by
  unfold eqA eqHead eqP
  rw [Bool.eq_iff_iff]
  simp only [Bool.and_eq_true, decide_eq_true_eq]
  constructor
  · rintro ⟨⟨⟨⟨⟨⟨h1, h2⟩, h3⟩, h4⟩, h5⟩, h6⟩, h7⟩
    exact ⟨⟨⟨⟨⟨⟨⟨⟨h1, h5⟩, by omega⟩, h3⟩, h4⟩, by rw [h6]⟩, by rw [h7]⟩, h6⟩, h7⟩
  · rintro ⟨⟨⟨⟨⟨⟨⟨⟨h1, h5⟩, h2⟩, h3⟩, h4⟩, _⟩, _⟩, h6⟩, h7⟩
    exact ⟨⟨⟨⟨⟨⟨h1, by rw [h2]⟩, h3⟩, h4⟩, h5⟩, h6⟩, h7⟩
theorem psame_any (pa1 ca1 ra1 pa2 ca2 ra2 : Option Addr) (pc1 cc1 rc1 pc2 cc2 rc2 : Nat) (a b : At) (w : World) (hl : sizeA a ≤ 100000) (h1 : AtRd w pa1 ca1 ra1 a) (h2 : AtRd w pa2 ca2 ra2 b) :
    Calls Try.prog 24 #[atV pa1 pc1 ca1 cc1 ra1 rc1 a, atV pa2 pc2 ca2 cc2 ra2 rc2 b] w fun e w' => e = .returned (.bool (eqA a b)) ∧ Below w.heap.size w w' := by
  rw [← eqA_parts]
  unfold sizeA at hl
  exact same_plain a.origin pa1 _ pc1 a.next a.med a.pref ca1 _ cc1 ra1 _ rc1 b.origin pa2 _ pc2 b.next b.med b.pref ca2 _ cc2 ra2 _ rc2 _ _ _ w
    (fun w1 hb => efs_any pa1 pa2 pc1 pc2 _ _ a.path b.path w1 rfl rfl (by omega) (h1.path.below hb) (h2.path.below hb))
    (fun w1 hb => peq_u32s ca1 ca2 cc1 cc2 _ _ a.comms b.comms w1 rfl rfl (by omega) (h1.comms.below hb) (h2.comms.below hb))
    (fun w1 hb => efr_any ra1 ra2 rc1 rc2 _ _ a.raws b.raws w1 rfl rfl (by omega) (h1.raws.below hb) (h2.raws.below hb))
end Go.Proofs.Ytnblkgffgbiemaa
