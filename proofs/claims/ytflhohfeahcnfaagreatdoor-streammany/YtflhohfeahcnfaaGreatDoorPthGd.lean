/- The document's GoodPath. -/
import Derived.Test.YtflhohfeahcnfaaGreatDoorPthPl
namespace Go.Proofs.YtflhohfeahcnfaaGreatDoor
open Go.RowKit
set_option maxRecDepth 100000

set_option maxHeartbeats 1600000 in
theorem rgood_some (b off n cap : Nat) (ss : List (Bool × List Int)) (w : World) (hn : ss.length = n) (hsum : n + sumP ss ≤ 100000) (hc : ∀ i s, ss[i]? = some s → w.cell? ⟨b, off + i * 2, none⟩ = some (.bool s.1) ∧ ∃ a' c', w.cell? ⟨b, off + i * 2 + 1, none⟩ = some (.slice a' s.2.length c') ∧ IRd w a' s.2) :
    Calls Tryz.prog 77 #[.slice (some ⟨b, off, none⟩) n cap] w fun e w' => e = .returned (.bool (goodP ss)) ∧ w' = w := by
  have HC := hide hc
  have HN := hide hn
  clear hc hn
  go_enter Tryz.func77, Tryz.ntmps77
  go_wp2
  go_loop [3, 4] (fun t i => ∃ k x : Nat, k ≤ n ∧ i = .int .i64 k ∧ t = .int .i64 (x : Int) ∧ Hid (x = sumP (ss.take k)) ∧ Hid ((ss.take k).all okS = true)) (fun _ i => n - (intOf i).toNat)
  case atStart => exact ⟨0, 0, Nat.zero_le _, rfl, rfl, rfl, rfl⟩
  case round =>
    obtain ⟨k, x, hk, rfl, rfl, HX, HA⟩ := hrel
    by_cases hlt : k < n
    · have hkp : k < ss.length := by rw [HN.out]; exact hlt
      obtain ⟨c0, a', c', c1, hr⟩ := HC.out k ss[k] (List.getElem?_eq_getElem hkp)
      have HR := hide hr
      clear hr
      have HT : Hid (sumP (ss.take (k + 1)) = sumP (ss.take k) + (ss[k]).2.length) := by show sumP (ss.take (k + 1)) = _; rw [List.take_succ_eq_append_getElem hkp, sumP_snoc]
      have HTA : Hid ((ss.take (k + 1)).all okS = ((ss.take k).all okS && okS ss[k])) := by show (ss.take (k + 1)).all okS = _; rw [List.take_succ_eq_append_getElem hkp]; simp only [List.all_append, List.all_cons, List.all_nil, Bool.and_true]
      have HNO : Hid (okS ss[k] = false → goodP ss = false) := goodP_no (List.getElem_mem hkp)
      have hx : x ≤ 100000 := by have := sumP_take ss k; rw [HX.out]; omega
      have hl : (ss[k]).2.length ≤ 100000 := by have := sumP_mem ss _ (List.getElem_mem hkp); omega
      generalize hsk : ss[k] = s at *
      clear hsk
      obtain ⟨b1, zs⟩ := s
      simp only at hl c1 c0
      generalize hll : zs.length = l at *
      have HLL := hide hll
      clear hll
      have hk0 : (0 : Int) ≤ (k : Int) := Int.natCast_nonneg _
      have hk1 : (k : Int) < (n : Int) := by omega
      by_cases h1 : l < 1
      · have HG : Hid (goodP ss = false) := HNO.out (okS_len (by show ¬ (1 ≤ zs.length ∧ zs.length ≤ 255); rw [HLL.out]; omega))
        have i1 : (l : Int) < 1 := by omega
        go_wp2
        go_ret
        exact ⟨ret_bool HG.out.symm, rfl⟩
      · by_cases h2 : 255 < l
        · have HG : Hid (goodP ss = false) := HNO.out (okS_len (by show ¬ (1 ≤ zs.length ∧ zs.length ≤ 255); rw [HLL.out]; omega))
          have i1 : decide ((l : Int) < 1) = false := decide_eq_false (by omega)
          have i2 : (255 : Int) < (l : Int) := by omega
          go_wp2
          go_ret
          exact ⟨ret_bool HG.out.symm, rfl⟩
        · have i1 : decide ((l : Int) < 1) = false := decide_eq_false (by omega)
          have i2 : decide ((255 : Int) < (l : Int)) = false := decide_eq_false (by omega)
          have hl255 : l ≤ 255 := by omega
          go_wp2
          go_loop [3, 5] (fun t i => ∃ q y : Nat, q ≤ l ∧ i = .int .i64 q ∧ t = .int .i64 (y : Int) ∧ Hid (y = x + q) ∧ Hid ((zs.take q).all okN = true)) (fun _ i => l - (intOf i).toNat)
          case atStart => exact ⟨0, x, Nat.zero_le _, rfl, rfl, rfl, rfl⟩
          case round =>
            obtain ⟨q, y, hq, rfl, rfl, HY, HQ⟩ := hrel
            have hy : y ≤ 200000 := by rw [HY.out]; omega
            by_cases hlq : q < l
            · have hqp : q < zs.length := by rw [HLL.out]; exact hlq
              obtain ⟨b2, o2, e2, hcz⟩ := HR.out (by show 0 < zs.length; omega)
              subst e2
              have cz := hcz q zs[q] (List.getElem?_eq_getElem hqp)
              have HTQ : Hid ((zs.take (q + 1)).all okN = ((zs.take q).all okN && okN zs[q])) := by show (zs.take (q + 1)).all _ = _; rw [List.take_succ_eq_append_getElem hqp]; simp only [List.all_append, List.all_cons, List.all_nil, Bool.and_true]
              have HZ : Hid (okN zs[q] = false → goodP ss = false) := fun h => HNO.out (okS_num (List.getElem_mem hqp) h)
              clear hcz
              generalize zs[q] = z at *
              have hq0 : (0 : Int) ≤ (q : Int) := Int.natCast_nonneg _
              have hq1 : (q : Int) < (l : Int) := by omega
              by_cases hz1 : z < 1
              · have HG : Hid (goodP ss = false) := HZ.out (decide_eq_false (by omega))
                go_wp2
                go_ret
                exact ⟨ret_bool HG.out.symm, rfl⟩
              · by_cases hz2 : 4294967295 < z
                · have HG : Hid (goodP ss = false) := HZ.out (decide_eq_false (by omega))
                  have j1 : decide (z < 1) = false := decide_eq_false hz1
                  go_wp2
                  go_ret
                  exact ⟨ret_bool HG.out.symm, rfl⟩
                · have j1 : decide (z < 1) = false := decide_eq_false hz1
                  have j2 : decide (4294967295 < z) = false := decide_eq_false hz2
                  have HQ2 : Hid ((zs.take (q + 1)).all okN = true) := by
                    show (zs.take (q + 1)).all okN = true
                    rw [HTQ.out, HQ.out, show okN z = true from decide_eq_true (by omega)]; rfl
                  clear hz1 hz2
                  go_wp2
                  exact ⟨⟨q + 1, y + 1, by omega, by go_num, by go_num, by show y + 1 = x + (q + 1); rw [HY.out]; omega, HQ2⟩, by simp [intOf]; omega⟩
            · have hql : q = l := by omega
              subst hql
              have HS : Hid (okS (b1, zs) = true) := by
                show okS (b1, zs) = true
                have hz := HQ.out
                rw [List.take_of_length_le (by rw [HLL.out]; omega)] at hz
                unfold okS
                rw [hz, decide_eq_true (by show 1 ≤ zs.length ∧ zs.length ≤ 255; rw [HLL.out]; omega)]; rfl
              go_wp2
              exact ⟨⟨k + 1, y, by omega, by go_num, rfl, by show y = _; rw [HT.out, HY.out, HX.out], by show (ss.take (k + 1)).all okS = true; rw [HTA.out, HA.out, HS.out]; rfl⟩, by simp [intOf]; omega⟩
    · have hkl : ss.take k = ss := List.take_of_length_le (by rw [HN.out]; omega)
      rw [hkl] at HX HA
      have HG : Hid (goodP ss = decide (sumP ss ≤ 64)) := by show goodP ss = _; unfold goodP; rw [HA.out, Bool.true_and]
      go_wp2
      go_ret
      exact ⟨ret_bool (by rw [HG.out, HX.out, Bool.eq_iff_iff]; simp; omega), rfl⟩
set_option maxHeartbeats 400000 in
theorem rgood_empty (a : Option Addr) (cap : Nat) (w : World) : Calls Tryz.prog 77 #[.slice a 0 cap] w fun e w' => e = .returned (.bool true) ∧ w' = w := by
  go_enter Tryz.func77, Tryz.ntmps77
  go_wp2
  go_loop [3, 4] (fun t i => i = .int .i64 0 ∧ t = .int .i64 0) (fun _ i => 0 - (intOf i).toNat)
  case atStart => exact ⟨rfl, rfl⟩
  case round =>
    obtain ⟨rfl, rfl⟩ := hrel
    go_wp2
    go_ret
    exact ⟨rfl, rfl⟩
theorem rgood_any (a : Option Addr) (cap : Nat) (ss : List (Bool × List Int)) (w : World) (hsum : ss.length + sumP ss ≤ 100000) (h : PthRd w a ss) : Calls Tryz.prog 77 #[.slice a ss.length cap] w fun e w' => e = .returned (.bool (goodP ss)) ∧ w' = w := by
  by_cases h0 : ss = []
  · subst h0; exact rgood_empty a cap w
  · obtain ⟨b, off, rfl, hc⟩ := h.cells (List.length_pos_iff.2 h0)
    exact rgood_some b off _ cap ss w rfl hsum hc
end Go.Proofs.YtflhohfeahcnfaaGreatDoor
