/- The document's SamePath. -/
import Derived.Test.YthigjonagbfbbaaDoorKAb
import Derived.Deep.QuietTactic
import Derived.BigQuiet
import Derived.Test.YthigjonagbfbbaaDoorKAg
namespace Go.Proofs.YthigjonagbfbbaaDoor
open Go.RowKit
set_option maxRecDepth 100000

/-- Are they the same? -/
def eqP (p q : List (Bool × List Int)) : Bool := decide (p = q)
theorem eqP_no {p q : List (Bool × List Int)} (h : p ≠ q) : eqP p q = false := decide_eq_false h
set_option maxHeartbeats 400000 in
theorem samepath_len (a1 a2 : Option Addr) (n1 n2 c1 c2 : Nat) (w : World) (h : n1 ≠ n2) : Calls Tryd.prog 15 #[.slice a1 n1 c1, .slice a2 n2 c2] w fun e w' => e = .returned (.bool false) ∧ ∃ m, w' = w.drewN m := by
  have e0 : ((n1 : Int) != (n2 : Int)) = true := by simp; omega
  clear h
  go_enter Tryd.func15, Tryd.ntmps15
  go_wp2
  go_ret
  exact ⟨rfl, 0, rfl⟩
set_option maxHeartbeats 400000 in
theorem samepath_empty (a1 a2 : Option Addr) (c1 c2 : Nat) (w : World) : Calls Tryd.prog 15 #[.slice a1 0 c1, .slice a2 0 c2] w fun e w' => e = .returned (.bool true) ∧ ∃ m, w' = w.drewN m := by
  go_enter Tryd.func15, Tryd.ntmps15
  go_wp2
  go_loopw [5] (fun i wq => i = .int .i64 0 ∧ wq = w) (fun i _ => 0 - (intOf i).toNat)
  case atStart => exact ⟨rfl, rfl⟩
  case round =>
    obtain ⟨rfl, rfl⟩ := hrel
    go_wp2
    go_ret
    exact ⟨rfl, 0, rfl⟩
set_option maxHeartbeats 3200000 in
theorem samepath_some (g1 o1 g2 o2 n c1 c2 : Nat) (p q : List (Bool × List Int)) (w : World) (hp : p.length = n) (hq : q.length = n) (hs : n + sumP p ≤ 100000) (hs2 : sumP q ≤ 100000)
    (h1 : ∀ i s, p[i]? = some s → w.cell? ⟨g1, o1 + i * 2, none⟩ = some (.bool s.1) ∧ ∃ a' c', w.cell? ⟨g1, o1 + i * 2 + 1, none⟩ = some (.slice a' s.2.length c') ∧ IRd w a' s.2)
    (h2 : ∀ i s, q[i]? = some s → w.cell? ⟨g2, o2 + i * 2, none⟩ = some (.bool s.1) ∧ ∃ a' c', w.cell? ⟨g2, o2 + i * 2 + 1, none⟩ = some (.slice a' s.2.length c') ∧ IRd w a' s.2) :
    Calls Tryd.prog 15 #[.slice (some ⟨g1, o1, none⟩) n c1, .slice (some ⟨g2, o2, none⟩) n c2] w fun e w' => e = .returned (.bool (eqP p q)) ∧ ∃ m, w' = w.drewN m := by
  have H1 := hide h1
  have H2 := hide h2
  have HP := hide hp
  have HQ := hide hq
  clear h1 h2 hp hq
  go_enter Tryd.func15, Tryd.ntmps15
  go_wp2
  go_loopw [5] (fun i wq => ∃ k m : Nat, k ≤ n ∧ i = .int .i64 k ∧ Hid (wq = w.drewN m) ∧ Hid (p.take k = q.take k)) (fun i _ => n - (intOf i).toNat)
  case atStart => exact ⟨0, 0, Nat.zero_le _, rfl, rfl, rfl⟩
  case round =>
    obtain ⟨k, m, hk, rfl, HW, HT⟩ := hrel
    by_cases hlt : k < n
    · have hkp : k < p.length := by rw [HP.out]; exact hlt
      have hkq : k < q.length := by rw [HQ.out]; exact hlt
      obtain ⟨x0, a1, d1, x1, r1⟩ := H1.out k p[k] (List.getElem?_eq_getElem hkp)
      obtain ⟨y0, a2, d2, y1, r2⟩ := H2.out k q[k] (List.getElem?_eq_getElem hkq)
      have u0 : wr.cell? ⟨g1, o1 + k * 2, none⟩ = some (.bool (p[k]).1) := by rw [HW.out, cell_drewN]; exact x0
      have u1 : wr.cell? ⟨g1, o1 + k * 2 + 1, none⟩ = some (.slice a1 (p[k]).2.length d1) := by rw [HW.out, cell_drewN]; exact x1
      have v0 : wr.cell? ⟨g2, o2 + k * 2, none⟩ = some (.bool (q[k]).1) := by rw [HW.out, cell_drewN]; exact y0
      have v1 : wr.cell? ⟨g2, o2 + k * 2 + 1, none⟩ = some (.slice a2 (q[k]).2.length d2) := by rw [HW.out, cell_drewN]; exact y1
      have X1 := hide x1
      have Y1 := hide y1
      have R1 := hide r1
      have R2 := hide r2
      clear x0 x1 y0 y1 r1 r2
      have HNE : Hid (p[k] ≠ q[k] → eqP p q = false) := fun h => eqP_no (fun e => h (by subst e; rfl))
      have HTK : Hid (p[k] = q[k] → p.take (k + 1) = q.take (k + 1)) := fun h => by rw [List.take_succ_eq_append_getElem hkp, List.take_succ_eq_append_getElem hkq, HT.out, h]
      have hl1 : (p[k]).2.length ≤ 100000 := by have := sumP_mem p _ (List.getElem_mem hkp); omega
      have hl2 : (q[k]).2.length ≤ 100000 := by have := sumP_mem q _ (List.getElem_mem hkq); omega
      generalize p[k] = s at *
      generalize q[k] = t at *
      obtain ⟨b1, zs⟩ := s
      obtain ⟨b2, ys⟩ := t
      simp only at u0 u1 v0 v1 X1 Y1 R1 R2 hl1 hl2
      have hk0 : (0 : Int) ≤ (k : Int) := Int.natCast_nonneg _
      have hk1 : (k : Int) < (n : Int) := by omega
      by_cases hb : b1 = b2
      · subst hb
        have eb : (b1 != b1) = false := by simp
        by_cases hl : zs.length = ys.length
        · have el : ((zs.length : Int) != (ys.length : Int)) = false := by rw [hl]; simp
          generalize hll : ys.length = l at *
          have HLL := hide hll
          clear hll
          have HL := hide hl
          have hl9 : l ≤ 100000 := hl2
          rw [hl] at u1 el X1 hl1
          clear hl
          go_wp2_with fail
          go_quiet (fail)
          go_wp2
          go_loopw [6] (fun i wq => ∃ j m2 : Nat, j ≤ l ∧ i = .int .i64 j ∧ Hid (wq = w.drewN m2) ∧ Hid (zs.take j = ys.take j)) (fun i _ => l - (intOf i).toNat)
          case atStart => exact ⟨0, m + nq, Nat.zero_le _, rfl, show wr.drewN nq = _ by rw [HW.out, drewN_more], rfl⟩
          case round =>
            obtain ⟨j, m2, hj, rfl, HW2, HJ⟩ := hrel
            have u1 : wr.cell? ⟨g1, o1 + k * 2 + 1, none⟩ = some (.slice a1 l d1) := by rw [HW2.out, cell_drewN]; exact X1.out
            have v1 : wr.cell? ⟨g2, o2 + k * 2 + 1, none⟩ = some (.slice a2 l d2) := by rw [HW2.out, cell_drewN]; exact Y1.out
            by_cases hlj : j < l
            · have hjz : j < zs.length := by rw [HL.out]; exact hlj
              have hjy : j < ys.length := by rw [HLL.out]; exact hlj
              obtain ⟨f1, e1, rfl, hz1⟩ := R1.out (by omega)
              obtain ⟨f2, e2, rfl, hz2⟩ := R2.out (by omega)
              have cz : wr.cell? ⟨f1, e1 + j, none⟩ = some (.int .i64 zs[j]) := by rw [HW2.out, cell_drewN]; exact hz1 j _ (List.getElem?_eq_getElem hjz)
              have cy : wr.cell? ⟨f2, e2 + j, none⟩ = some (.int .i64 ys[j]) := by rw [HW2.out, cell_drewN]; exact hz2 j _ (List.getElem?_eq_getElem hjy)
              have HJN : Hid (zs[j] ≠ ys[j] → eqP p q = false) := fun h => HNE.out (fun e => h (by injection e with _ e3; subst e3; rfl))
              have HJT : Hid (zs[j] = ys[j] → zs.take (j + 1) = ys.take (j + 1)) := fun h => by rw [List.take_succ_eq_append_getElem hjz, List.take_succ_eq_append_getElem hjy, HJ.out, h]
              clear hz1 hz2
              generalize zs[j] = z at *
              generalize ys[j] = y at *
              have hj0 : (0 : Int) ≤ (j : Int) := Int.natCast_nonneg _
              have hj1 : (j : Int) < (l : Int) := by omega
              by_cases hzy : z = y
              · have HJ2 := hide (HJT.out hzy)
                have ez : (z != y) = false := by rw [hzy]; simp
                clear hzy
                go_wp2_with fail
                go_quiet (fail)
                go_wp2
                exact ⟨⟨j + 1, m2 + nq, by omega, by go_num, show wr.drewN nq = _ by rw [HW2.out, drewN_more], HJ2⟩, by simp [intOf]; omega⟩
              · have HG := hide (HJN.out hzy)
                have ez : (z != y) = true := by simpa using hzy
                clear hzy
                go_wp2_with fail
                go_quiet (fail)
                go_wp2
                go_ret
                exact ⟨ret_bool HG.out.symm, m2 + nq, show wr.drewN nq = _ by rw [HW2.out, drewN_more]⟩
            · have HT2 : Hid (p.take (k + 1) = q.take (k + 1)) := HTK.out (by
                have := HJ.out
                rw [List.take_of_length_le (by rw [HL.out]; omega), List.take_of_length_le (by rw [HLL.out]; omega)] at this
                rw [this])
              go_wp2
              exact ⟨⟨k + 1, m2, by omega, by go_num, HW2, HT2⟩, by simp [intOf]; omega⟩
        · have HG : Hid (eqP p q = false) := HNE.out (fun e => hl (by injection e with _ e2; rw [e2]))
          have el : ((zs.length : Int) != (ys.length : Int)) = true := by simp; omega
          clear hl
          go_wp2_with fail
          go_quiet (fail)
          go_wp2
          go_ret
          exact ⟨ret_bool HG.out.symm, m + nq, show wr.drewN nq = _ by rw [HW.out, drewN_more]⟩
      · have HG : Hid (eqP p q = false) := HNE.out (fun e => hb (by injection e))
        have eb : (b1 != b2) = true := by simpa using hb
        go_wp2_with fail
        go_quiet (fail)
        go_wp2
        go_ret
        exact ⟨ret_bool HG.out.symm, m + nq, show wr.drewN nq = _ by rw [HW.out, drewN_more]⟩
    · have HG : Hid (eqP p q = true) := by
        show eqP p q = true
        have := HT.out
        rw [List.take_of_length_le (by rw [HP.out]; omega), List.take_of_length_le (by rw [HQ.out]; omega)] at this
        exact decide_eq_true this
      go_wp2
      go_ret
      exact ⟨ret_bool HG.out.symm, m, HW.out⟩
theorem samepath_any (a1 a2 : Option Addr) (c1 c2 : Nat) (p q : List (Bool × List Int)) (w : World) (hs : p.length + sumP p ≤ 100000) (hs2 : sumP q ≤ 100000) (h1 : PthRd w a1 p) (h2 : PthRd w a2 q) :
    Calls Tryd.prog 15 #[.slice a1 p.length c1, .slice a2 q.length c2] w fun e w' => e = .returned (.bool (eqP p q)) ∧ ∃ m, w' = w.drewN m := by
  by_cases hl : p.length = q.length
  · by_cases h0 : p = []
    · subst h0
      have hq : q = [] := List.length_eq_zero_iff.1 hl.symm
      subst hq
      exact samepath_empty a1 a2 c1 c2 w
    · obtain ⟨b1, o1, rfl, hc1⟩ := h1.cells (List.length_pos_iff.2 h0)
      obtain ⟨b2, o2, rfl, hc2⟩ := h2.cells (by have := List.length_pos_iff.2 h0; omega)
      rw [← hl]
      exact samepath_some b1 o1 b2 o2 p.length c1 c2 p q w rfl hl.symm hs hs2 hc1 hc2
  · rw [eqP_no (fun e => hl (by rw [e]))]
    exact samepath_len a1 a2 _ _ c1 c2 w hl
end Go.Proofs.YthigjonagbfbbaaDoor
/- The document's SameAttrs. -/
namespace Go.Proofs.YthigjonagbfbbaaDoor
open Go.RowKit
set_option maxRecDepth 100000

/-- The same but for communities and Raws, of which there are as many. -/
def eqHead (a b : At) : Bool := decide (a.origin = b.origin) && eqP a.path b.path && decide (a.next = b.next) && decide (a.med = b.med) && decide (a.pref = b.pref) && decide (a.comms.length = b.comms.length) && decide (a.raws.length = b.raws.length)
/-- The same attributes? -/
def eqA (a b : At) : Bool := eqHead a b && decide (a.comms = b.comms) && decide (a.raws = b.raws)
set_option maxHeartbeats 6400000 in
theorem samea_no (o1 : Int) (pa1 : Option Addr) (pn1 pc1 : Nat) (nx1 : Nat) (md1 pf1 : Int) (ca1 : Option Addr) (cn1 cc1 : Nat) (ra1 : Option Addr) (rn1 rc1 : Nat) (o2 : Int) (pa2 : Option Addr) (pn2 pc2 : Nat) (nx2 : Nat) (md2 pf2 : Int) (ca2 : Option Addr) (cn2 cc2 : Nat) (ra2 : Option Addr) (rn2 rc2 : Nat) (g : Bool) (w : World)
    (KS : Hid (∀ w1, Below w.heap.size w w1 → Calls Tryd.prog 15 #[.slice pa1 pn1 pc1, .slice pa2 pn2 pc2] w1 fun e w' => e = .returned (.bool g) ∧ ∃ m, w' = w1.drewN m))
    (hno : (decide (o1 = o2) && g && decide (nx1 = nx2) && decide (md1 = md2) && decide (pf1 = pf2) && decide (cn1 = cn2) && decide (rn1 = rn2)) = false) :
    Calls Tryd.prog 12 #[.agg #[.int .i64 o1, .slice pa1 pn1 pc1, .int .u32 (nx1 : Int), .int .i64 md1, .int .i64 pf1, .slice ca1 cn1 cc1, .slice ra1 rn1 rc1], .agg #[.int .i64 o2, .slice pa2 pn2 pc2, .int .u32 (nx2 : Int), .int .i64 md2, .int .i64 pf2, .slice ca2 cn2 cc2, .slice ra2 rn2 rc2]] w fun e w' => e = .returned (.bool false) ∧ Below w.heap.size w w' := by
  have hbb : ∀ p q, Below w.heap.size w ((w.alloc p).alloc q) := fun p q => ((Below.refl _ _).alloc (Nat.le_refl _) _).alloc (by simp) _
  have HNO := hide hno
  clear hno
  by_cases c1 : o1 = o2
  · subst c1
    cases g with
    | false =>
      clear HNO
      go_enter Tryd.func12, Tryd.ntmps12
      go_wp2_with fail
      refine (KS.out _ (hbb _ _)).mono ?_
      rintro e w1 ⟨rfl, m, rfl⟩
      go_wp2
      go_ret
      exact ⟨rfl, below_drewN (hbb _ _) m⟩
    | true =>
      by_cases c2 : nx1 = nx2
      · subst c2
        by_cases c3 : md1 = md2
        · subst c3
          by_cases c4 : pf1 = pf2
          · subst c4
            by_cases c5 : cn1 = cn2
            · subst c5
              have c6 : rn1 ≠ rn2 := by
                have h9 := HNO.out
                intro e
                subst e
                simp at h9
              have d6 : ((rn1 : Int) != (rn2 : Int)) = true := by simp; omega
              have d6n : (rn1 != rn2) = true := by simpa using c6
              clear HNO
              go_enter Tryd.func12, Tryd.ntmps12
              go_wp2_with fail
              refine (KS.out _ (hbb _ _)).mono ?_
              rintro e w1 ⟨rfl, m, rfl⟩
              go_wp2
              go_ret
              exact ⟨rfl, below_drewN (hbb _ _) m⟩
            · have d5 : ((cn1 : Int) != (cn2 : Int)) = true := by simp; omega
              have d5n : (cn1 != cn2) = true := by simpa using c5
              clear HNO
              go_enter Tryd.func12, Tryd.ntmps12
              go_wp2_with fail
              refine (KS.out _ (hbb _ _)).mono ?_
              rintro e w1 ⟨rfl, m, rfl⟩
              go_wp2
              go_ret
              exact ⟨rfl, below_drewN (hbb _ _) m⟩
          · have d4 : (pf1 != pf2) = true := by simpa using c4
            clear HNO
            go_enter Tryd.func12, Tryd.ntmps12
            go_wp2_with fail
            refine (KS.out _ (hbb _ _)).mono ?_
            rintro e w1 ⟨rfl, m, rfl⟩
            go_wp2
            go_ret
            exact ⟨rfl, below_drewN (hbb _ _) m⟩
        · have d3 : (md1 != md2) = true := by simpa using c3
          clear HNO
          go_enter Tryd.func12, Tryd.ntmps12
          go_wp2_with fail
          refine (KS.out _ (hbb _ _)).mono ?_
          rintro e w1 ⟨rfl, m, rfl⟩
          go_wp2
          go_ret
          exact ⟨rfl, below_drewN (hbb _ _) m⟩
      · have d2 : ((nx1 : Int) != (nx2 : Int)) = true := by simp; omega
        have d2n : (nx1 != nx2) = true := by simpa using c2
        clear HNO
        go_enter Tryd.func12, Tryd.ntmps12
        go_wp2_with fail
        refine (KS.out _ (hbb _ _)).mono ?_
        rintro e w1 ⟨rfl, m, rfl⟩
        go_wp2
        go_ret
        exact ⟨rfl, below_drewN (hbb _ _) m⟩
  · have d1 : (o1 != o2) = true := by simpa using c1
    clear HNO KS
    go_enter Tryd.func12, Tryd.ntmps12
    go_wp2
    go_ret
    exact ⟨rfl, hbb _ _⟩
end Go.Proofs.YthigjonagbfbbaaDoor
