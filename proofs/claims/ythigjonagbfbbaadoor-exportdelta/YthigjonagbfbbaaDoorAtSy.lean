/- The document's SameAttrs, its loops. -/
import Derived.Test.YthigjonagbfbbaaDoorKAh
namespace Go.Proofs.YthigjonagbfbbaaDoor
open Go.RowKit
set_option maxRecDepth 100000

theorem takes_eq {α : Type} {x y : List α} {n : Nat} (hx : x.length = n) (hy : y.length = n) (h : x.take n = y.take n) : x = y := by
  rwa [List.take_of_length_le (by omega), List.take_of_length_le (by omega)] at h
set_option maxHeartbeats 12800000 in
theorem samea_yes (o : Int) (nx : Nat) (md pf : Int) (pn cn rn : Nat) (pa1 pa2 : Option Addr) (pc1 pc2 : Nat) (ca1 ca2 : Option Addr) (cc1 cc2 : Nat) (ra1 ra2 : Option Addr) (rc1 rc2 : Nat) (cs1 cs2 : List Nat) (rs1 rs2 : List (Int × Int × List Nat)) (w : World)
    (KS : Hid (∀ w1, Below w.heap.size w w1 → Calls Tryd.prog 15 #[.slice pa1 pn pc1, .slice pa2 pn pc2] w1 fun e w' => e = .returned (.bool true) ∧ ∃ m, w' = w1.drewN m))
    (HC1 : Hid (CRd w ca1 cs1)) (HC2 : Hid (CRd w ca2 cs2)) (HR1 : Hid (RawRd w ra1 rs1)) (HR2 : Hid (RawRd w ra2 rs2)) (h1 : cs1.length = cn) (h2 : cs2.length = cn) (h3 : rs1.length = rn) (h4 : rs2.length = rn) (hb1 : cn + rn + sumR rs1 ≤ 100000) :
    Calls Tryd.prog 12 #[.agg #[.int .i64 o, .slice pa1 pn pc1, .int .u32 (nx : Int), .int .i64 md, .int .i64 pf, .slice ca1 cn cc1, .slice ra1 rn rc1], .agg #[.int .i64 o, .slice pa2 pn pc2, .int .u32 (nx : Int), .int .i64 md, .int .i64 pf, .slice ca2 cn cc2, .slice ra2 rn rc2]] w fun e w' => e = .returned (.bool (decide (cs1 = cs2) && decide (rs1 = rs2))) ∧ Below w.heap.size w w' := by
  have L1 := hide h1
  have L2 := hide h2
  have L3 := hide h3
  have L4 := hide h4
  clear h1 h2 h3 h4
  have hbb : ∀ p q, Below w.heap.size w ((w.alloc p).alloc q) := fun p q => ((Below.refl _ _).alloc (Nat.le_refl _) _).alloc (by simp) _
  go_enter Tryd.func12, Tryd.ntmps12
  go_wp2_with fail
  refine (KS.out _ (hbb _ _)).mono ?_
  rintro e w1 ⟨rfl, m0, hw1⟩
  have HB1 : Hid (Below w.heap.size w w1) := by show Below _ _ _; rw [hw1]; exact below_drewN (hbb _ _) m0
  have hz1 : w.heap.size + 1 < w1.heap.size := by rw [hw1]; show w.heap.size + 1 < ((w.alloc _).alloc _).heap.size; simp
  have hz0 : w.heap.size < w1.heap.size := by omega
  have X5 : Hid (w1.cell? ⟨w.heap.size, 5, none⟩ = some (.slice ca1 cn cc1)) := by show w1.cell? _ = _; rw [hw1, cell_drewN]; simp [go_sem]
  have X6 : Hid (w1.cell? ⟨w.heap.size, 6, none⟩ = some (.slice ra1 rn rc1)) := by show w1.cell? _ = _; rw [hw1, cell_drewN]; simp [go_sem]
  have Y5 : Hid (w1.cell? ⟨w.heap.size + 1, 5, none⟩ = some (.slice ca2 cn cc2)) := by show w1.cell? _ = _; rw [hw1, cell_drewN]; simp [go_sem]
  have Y6 : Hid (w1.cell? ⟨w.heap.size + 1, 6, none⟩ = some (.slice ra2 rn rc2)) := by show w1.cell? _ = _; rw [hw1, cell_drewN]; simp [go_sem]
  have s2 : w1.cell? ⟨w.heap.size, 2, none⟩ = some (.int .u32 (nx : Int)) := by rw [hw1, cell_drewN]; simp [go_sem]
  have t2 : w1.cell? ⟨w.heap.size + 1, 2, none⟩ = some (.int .u32 (nx : Int)) := by rw [hw1, cell_drewN]; simp [go_sem]
  have s3 : w1.cell? ⟨w.heap.size, 3, none⟩ = some (.int .i64 md) := by rw [hw1, cell_drewN]; simp [go_sem]
  have t3 : w1.cell? ⟨w.heap.size + 1, 3, none⟩ = some (.int .i64 md) := by rw [hw1, cell_drewN]; simp [go_sem]
  have s4 : w1.cell? ⟨w.heap.size, 4, none⟩ = some (.int .i64 pf) := by rw [hw1, cell_drewN]; simp [go_sem]
  have t4 : w1.cell? ⟨w.heap.size + 1, 4, none⟩ = some (.int .i64 pf) := by rw [hw1, cell_drewN]; simp [go_sem]
  have s5 := X5.out
  have s6 := X6.out
  have t5 := Y5.out
  have t6 := Y6.out
  clear hw1 hbb KS
  go_wp2
  clear s2 s3 s4 s5 s6 t2 t3 t4 t5 t6
  go_loopw [5] (fun i wq => ∃ k m : Nat, k ≤ cn ∧ i = .int .i64 k ∧ Hid (wq = w1.drewN m) ∧ Hid (cs1.take k = cs2.take k)) (fun i _ => cn - (intOf i).toNat)
  case atStart => exact ⟨0, 0, Nat.zero_le _, rfl, rfl, rfl⟩
  case round =>
    obtain ⟨k, m, hk, rfl, HW, HT⟩ := hrel
    have x5 : wr.cell? ⟨w.heap.size, 5, none⟩ = some (.slice ca1 cn cc1) := by rw [HW.out, cell_drewN]; exact X5.out
    have y5 : wr.cell? ⟨w.heap.size + 1, 5, none⟩ = some (.slice ca2 cn cc2) := by rw [HW.out, cell_drewN]; exact Y5.out
    have v0 : w.heap.size < wr.heap.size := by rw [HW.out]; exact hz0
    have v1 : w.heap.size + 1 < wr.heap.size := by rw [HW.out]; exact hz1
    by_cases hlt : k < cn
    · have hk1p : k < cs1.length := by rw [L1.out]; exact hlt
      have hk2p : k < cs2.length := by rw [L2.out]; exact hlt
      obtain ⟨b1, o1, hae1, hc1⟩ := HC1.out (by omega)
      obtain ⟨b2, o2, hae2, hc2⟩ := HC2.out (by omega)
      subst hae1 hae2
      have e1 := hc1 k cs1[k] (List.getElem?_eq_getElem hk1p)
      have e2 := hc2 k cs2[k] (List.getElem?_eq_getElem hk2p)
      have c1 : wr.cell? ⟨b1, o1 + k, none⟩ = some (.int .u32 ((cs1[k] : Nat) : Int)) := by rw [HW.out, cell_drewN, HB1.out.cell (p := ⟨b1, o1 + k, none⟩) (World.block_lt_of_cell? w _ e1)]; exact e1
      have c2 : wr.cell? ⟨b2, o2 + k, none⟩ = some (.int .u32 ((cs2[k] : Nat) : Int)) := by rw [HW.out, cell_drewN, HB1.out.cell (p := ⟨b2, o2 + k, none⟩) (World.block_lt_of_cell? w _ e2)]; exact e2
      have HT1 : Hid (cs1.take (k + 1) = cs1.take k ++ [cs1[k]]) := List.take_succ_eq_append_getElem hk1p
      have HT2 : Hid (cs2.take (k + 1) = cs2.take k ++ [cs2[k]]) := List.take_succ_eq_append_getElem hk2p
      have HNE : Hid (cs1[k] ≠ cs2[k] → decide (cs1 = cs2) = false) := fun h => decide_eq_false (fun e => by subst e; exact h rfl)
      clear e1 e2 hc1 hc2
      generalize cs1[k] = p at *
      generalize cs2[k] = q at *
      have hk0 : (0 : Int) ≤ (k : Int) := Int.natCast_nonneg _
      have hk1 : (k : Int) < (cn : Int) := by omega
      by_cases hpq : p = q
      · subst hpq
        have HT3 : Hid (cs1.take (k + 1) = cs2.take (k + 1)) := by show cs1.take (k + 1) = _; rw [HT1.out, HT2.out, HT.out]
        clear HNE HT1 HT2
        go_wp2_with fail
        go_quiet (fail)
        go_wp2
        exact ⟨⟨k + 1, m + nq, by omega, by go_num, show wr.drewN nq = _ by rw [HW.out, drewN_more], HT3⟩, by simp [intOf]; omega⟩
      · have HF := hide (HNE.out hpq)
        have hpi : ((p : Int) != (q : Int)) = true := by simp; omega
        have hpn : (p != q) = true := by simpa using hpq
        clear HNE HT1 HT2
        go_wp2_with fail
        go_quiet (fail)
        go_wp2
        go_ret
        exact ⟨ret_bool (by rw [HF.out, Bool.false_and]), by have h9 := HW.out; rw [h9, drewN_more]; exact below_drewN HB1.out _⟩
    · have HCE : Hid (decide (cs1 = cs2) = true) := by
        have hkl : k = cn := by omega
        have h9 := HT.out
        rw [hkl] at h9
        exact decide_eq_true (takes_eq L1.out L2.out h9)
      obtain ⟨wS, hwS⟩ : ∃ wS : World, wS = wr := ⟨wr, rfl⟩
      subst hwS
      have HBS : Hid (Below w.heap.size w wS) := by show Below _ _ _; rw [HW.out]; exact below_drewN HB1.out m
      have X6b : Hid (wS.cell? ⟨w.heap.size, 6, none⟩ = some (.slice ra1 rn rc1)) := by show wS.cell? _ = _; rw [HW.out, cell_drewN]; exact X6.out
      have Y6b : Hid (wS.cell? ⟨w.heap.size + 1, 6, none⟩ = some (.slice ra2 rn rc2)) := by show wS.cell? _ = _; rw [HW.out, cell_drewN]; exact Y6.out
      clear HW HT X5 Y5 X6 Y6 HC1 HC2
      go_wp2
      go_loopw [6] (fun i wq => ∃ j m : Nat, j ≤ rn ∧ i = .int .i64 j ∧ Hid (wq = wS.drewN m) ∧ Hid (rs1.take j = rs2.take j)) (fun i _ => rn - (intOf i).toNat)
      case atStart => exact ⟨0, 0, Nat.zero_le _, rfl, rfl, rfl⟩
      case round =>
        obtain ⟨j, m2, hj, rfl, HW, HT⟩ := hrel
        have x6 : wr.cell? ⟨w.heap.size, 6, none⟩ = some (.slice ra1 rn rc1) := by rw [HW.out, cell_drewN]; exact X6b.out
        have y6 : wr.cell? ⟨w.heap.size + 1, 6, none⟩ = some (.slice ra2 rn rc2) := by rw [HW.out, cell_drewN]; exact Y6b.out
        have u0z : w.heap.size < wr.heap.size := by rw [HW.out]; exact v0
        have u1z : w.heap.size + 1 < wr.heap.size := by rw [HW.out]; exact v1
        have HBR : Hid (Below w.heap.size w wr) := by show Below _ _ _; rw [HW.out]; exact below_drewN HBS.out m2
        by_cases hlj : j < rn
        · have hj1p : j < rs1.length := by rw [L3.out]; exact hlj
          have hj2p : j < rs2.length := by rw [L4.out]; exact hlj
          obtain ⟨b1, o1, hae1, hc1⟩ := HR1.out (by omega)
          obtain ⟨b2, o2, hae2, hc2⟩ := HR2.out (by omega)
          subst hae1 hae2
          obtain ⟨p0, p1, a1, c1, p2, _, hd1⟩ := hc1 j rs1[j] (List.getElem?_eq_getElem hj1p)
          obtain ⟨q0, q1, a2, c2, q2, _, hd2⟩ := hc2 j rs2[j] (List.getElem?_eq_getElem hj2p)
          have zp := World.block_lt_of_cell? w _ p0
          have zq := World.block_lt_of_cell? w _ q0
          simp only at zp zq
          have P0 : wr.cell? ⟨b1, o1 + j * 3, none⟩ = some (.int .i64 (rs1[j]).1) := by rw [HBR.out.cell (p := ⟨b1, o1 + j * 3, none⟩) zp]; exact p0
          have P1 : wr.cell? ⟨b1, o1 + j * 3 + 1, none⟩ = some (.int .i64 (rs1[j]).2.1) := by rw [HBR.out.cell (p := ⟨b1, o1 + j * 3 + 1, none⟩) zp]; exact p1
          have P2 : wr.cell? ⟨b1, o1 + j * 3 + 2, none⟩ = some (.slice a1 (rs1[j]).2.2.length c1) := by rw [HBR.out.cell (p := ⟨b1, o1 + j * 3 + 2, none⟩) zp]; exact p2
          have Q0 : wr.cell? ⟨b2, o2 + j * 3, none⟩ = some (.int .i64 (rs2[j]).1) := by rw [HBR.out.cell (p := ⟨b2, o2 + j * 3, none⟩) zq]; exact q0
          have Q1 : wr.cell? ⟨b2, o2 + j * 3 + 1, none⟩ = some (.int .i64 (rs2[j]).2.1) := by rw [HBR.out.cell (p := ⟨b2, o2 + j * 3 + 1, none⟩) zq]; exact q1
          have Q2 : wr.cell? ⟨b2, o2 + j * 3 + 2, none⟩ = some (.slice a2 (rs2[j]).2.2.length c2) := by rw [HBR.out.cell (p := ⟨b2, o2 + j * 3 + 2, none⟩) zq]; exact q2
          have KD : Hid (∀ n, Calls Tryd.prog 32 #[.slice a1 (rs1[j]).2.2.length c1, .slice a2 (rs2[j]).2.2.length c2] (wr.drewN n) fun e w' => e = .returned (.bool (decide ((rs1[j]).2.2 = (rs2[j]).2.2))) ∧ ∃ m, w' = (wr.drewN n).drewN m) := fun n =>
            samed_any a1 a2 c1 c2 _ _ _ (by have := sumR_mem rs1 _ (List.getElem_mem hj1p); omega) ((hd1.below HBR.out).below (below_drewN (Below.refl _ _) n)) ((hd2.below HBR.out).below (below_drewN (Below.refl _ _) n))
          have HT1 : Hid (rs1.take (j + 1) = rs1.take j ++ [rs1[j]]) := List.take_succ_eq_append_getElem hj1p
          have HT2 : Hid (rs2.take (j + 1) = rs2.take j ++ [rs2[j]]) := List.take_succ_eq_append_getElem hj2p
          have HNE : Hid (rs1[j] ≠ rs2[j] → decide (rs1 = rs2) = false) := fun h => decide_eq_false (fun e => by subst e; exact h rfl)
          clear p0 p1 p2 q0 q1 q2 hd1 hd2 hc1 hc2
          generalize rs1[j] = r1 at *
          generalize rs2[j] = r2 at *
          obtain ⟨f1, t1, d1⟩ := r1
          obtain ⟨f2, t2, d2⟩ := r2
          simp only at P0 P1 P2 Q0 Q1 Q2 KD
          have HDD : Hid (d1.length = d1.length) := rfl
          generalize d1.length = l1 at P2 KD
          generalize d2.length = l2 at Q2 KD
          clear HDD
          have hj0 : (0 : Int) ≤ (j : Int) := Int.natCast_nonneg _
          have hj1 : (j : Int) < (rn : Int) := by omega
          by_cases ef : f1 = f2
          · subst ef
            by_cases et : t1 = t2
            · subst et
              by_cases ed : d1 = d2
              · subst ed
                have HT3 : Hid (rs1.take (j + 1) = rs2.take (j + 1)) := by show rs1.take (j + 1) = _; rw [HT1.out, HT2.out, HT.out]
                rw [decide_eq_true rfl] at KD
                clear HNE HT1 HT2
                go_wp2_with fail
                go_quiet ((go_at_call 32; exact Calls.quiet_of (KD.out _)))
                go_wp2
                exact ⟨⟨j + 1, m2 + nq, by omega, by go_num, show wr.drewN nq = _ by rw [HW.out, drewN_more], HT3⟩, by simp [intOf]; omega⟩
              · have HF := hide (HNE.out (fun e9 => by injection e9 with _ e9; injection e9 with _ e9; exact ed e9))
                rw [decide_eq_false ed] at KD
                clear HNE HT1 HT2
                go_wp2_with fail
                go_quiet ((go_at_call 32; exact Calls.quiet_of (KD.out _)))
                go_wp2
                go_ret
                exact ⟨ret_bool (by rw [HF.out, Bool.and_false]), below_drewN HBR.out _⟩
            · have HF := hide (HNE.out (fun e9 => by injection e9 with _ e9; injection e9 with e9 _; exact et e9))
              have gt : (t1 != t2) = true := by simpa using et
              clear HNE HT1 HT2 KD
              go_wp2_with fail
              go_quiet (fail)
              go_wp2
              go_ret
              exact ⟨ret_bool (by rw [HF.out, Bool.and_false]), below_drewN HBR.out _⟩
          · have HF := hide (HNE.out (fun e9 => by injection e9 with e9 _; exact ef e9))
            have gf : (f1 != f2) = true := by simpa using ef
            clear HNE HT1 HT2 KD
            go_wp2_with fail
            go_quiet (fail)
            go_wp2
            go_ret
            exact ⟨ret_bool (by rw [HF.out, Bool.and_false]), below_drewN HBR.out _⟩
        · have HRE : Hid (decide (rs1 = rs2) = true) := by
            have hjl : j = rn := by omega
            have h9 := HT.out
            rw [hjl] at h9
            exact decide_eq_true (takes_eq L3.out L4.out h9)
          go_wp2
          go_ret
          exact ⟨ret_bool (by rw [HCE.out, HRE.out]; rfl), HBR.out⟩
theorem samea_any (pa1 pa2 : Option Addr) (pc1 pc2 : Nat) (ca1 ca2 : Option Addr) (cc1 cc2 : Nat) (ra1 ra2 : Option Addr) (rc1 rc2 : Nat) (a b : At) (w : World) (hl : sizeA a ≤ 100000) (hl2 : sizeA b ≤ 100000) (h1 : AtRd w pa1 ca1 ra1 a) (h2 : AtRd w pa2 ca2 ra2 b) :
    Calls Tryd.prog 12 #[atV pa1 pc1 ca1 cc1 ra1 rc1 a, atV pa2 pc2 ca2 cc2 ra2 rc2 b] w fun e w' => e = .returned (.bool (eqA a b)) ∧ Below w.heap.size w w' := by
  have KS : Hid (∀ w1, Below w.heap.size w w1 → Calls Tryd.prog 15 #[.slice pa1 a.path.length pc1, .slice pa2 b.path.length pc2] w1 fun e w' => e = .returned (.bool (eqP a.path b.path)) ∧ ∃ m, w' = w1.drewN m) := fun w1 hb => samepath_any pa1 pa2 pc1 pc2 a.path b.path w1 (by unfold sizeA at hl; omega) (by unfold sizeA at hl2; omega) (h1.path.below hb) (h2.path.below hb)
  unfold eqA atV
  cases hh : eqHead a b with
  | false =>
    rw [Bool.false_and, Bool.false_and]
    exact samea_no a.origin pa1 _ pc1 a.next a.med a.pref ca1 _ cc1 ra1 _ rc1 b.origin pa2 _ pc2 b.next b.med b.pref ca2 _ cc2 ra2 _ rc2 _ w KS hh
  | true =>
    rw [Bool.true_and]
    unfold eqHead at hh
    simp only [Bool.and_eq_true, decide_eq_true_eq] at hh
    obtain ⟨⟨⟨⟨⟨⟨e1, e2⟩, e3⟩, e4⟩, e5⟩, e6⟩, e7⟩ := hh
    rw [e2] at KS
    have e2b : a.path.length = b.path.length := by rw [of_decide_eq_true e2]
    rw [e2b] at KS
    rw [e1, e3, e4, e5, e6, e7, e2b]
    exact samea_yes b.origin b.next b.med b.pref _ _ _ pa1 pa2 pc1 pc2 ca1 ca2 cc1 cc2 ra1 ra2 rc1 rc2 a.comms b.comms a.raws b.raws w KS h1.comms h2.comms h1.raws h2.raws e6 rfl e7 rfl (by unfold sizeA at hl; omega)
end Go.Proofs.YthigjonagbfbbaaDoor
