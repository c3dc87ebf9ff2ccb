/- Are routes not too many, nor too large, and their numbers as they may be? -/
import Derived.Test.YtolpaimmmhoiiaaDcG
import Derived.Test.YtolpaimmmhoiiaaDdM
import Derived.Test.YtolpaimmmhoiiaaHPb
namespace Go.Proofs.Ytolpaimmmhoiiaa
open Go.RowKit
set_option maxRecDepth 100000

theorem badB_in {x : Int} (h : badB x = false) : inF x := by
  unfold badB at h
  simp only [Bool.or_eq_false_iff, decide_eq_false_iff_not] at h
  unfold inF
  omega
/-- What small says of a route. -/
def FineR (r : Rt) : Prop := r.att.path.length + sumP r.att.path ≤ 3000 ∧ inF r.att.pref ∧ inF r.att.med ∧ inF r.att.origin ∧ inF r.peer
/-- What is known of those so far. -/
def SmK (all : List Rt) (i x : Nat) : Prop := all.length ≤ x ∧ ∀ (j : Nat) (r : Rt), j < i → all[j]? = some r → (x < 3000 → r.att.path.length + sumP r.att.path ≤ x) ∧ inF r.att.pref ∧ inF r.att.med ∧ inF r.att.origin ∧ inF r.peer
def ScR (e : Ending) (P : Prop) : Prop := ∃ z, e = .returned (.bool z) ∧ (z = true → P)
theorem run_loadA_at {w : World} {g o : Nat} {r : Rt} {pa : Option Addr} {pc : Nat} {ca : Option Addr} {cc : Nat} {ra : Option Addr} {rc : Nat} (h : RtAt w g o r pa pc ca cc ra rc) : (Instr.loadAt 39 (.pointer (some ⟨g, o + 3, none⟩))).run Try.prog w = .ok (atV pa pc ca cc ra rc r.att) w := by
  have := run_loadAt_mid (P := Try.prog) w g (o + 3) 39 [.int .i64 r.att.origin, .slice pa r.att.path.length pc, .int .u32 (r.att.next : Int), .int .i64 r.att.med, .int .i64 r.att.pref, .slice ca r.att.comms.length cc, .slice ra r.att.raws.length rc] _ (fun j v hv => by
    have hj : j < 7 := by have := (List.getElem?_eq_some_iff.1 hv).1; simpa using this
    rw [← hv]
    match j, hj with
    | 0, _ => exact h.1 3 _ rfl
    | 1, _ => exact h.1 4 _ rfl
    | 2, _ => exact h.1 5 _ rfl
    | 3, _ => exact h.1 6 _ rfl
    | 4, _ => exact h.1 7 _ rfl
    | 5, _ => exact h.1 8 _ rfl
    | 6, _ => exact h.1 9 _ rfl) Try.underlying39 rfl (by rw [infoA]; rfl)
  simpa [atV] using this
section
attribute [local go_sem ↓] keptA_load
set_option maxHeartbeats 3200000 in
theorem smallD_any (al : Option Addr) (cl : Nat) (all : List Rt) (w : World) (hm : all.length ≤ 1152921504606846976) (hb : ∀ x ∈ all, BigR x) (R : RtsRd w al all) :
    Calls Try.prog 8 #[.slice al all.length cl] w fun e w' => ScR e (all.length < 3000 ∧ ∀ (j : Nat) (r : Rt), all[j]? = some r → FineR r) ∧ Below w.heap.size w w' := by
  have HR := hide R
  have HBG := hide hb
  clear R hb
  obtain ⟨P, hP⟩ : ∃ P : Prop, P = (all.length < 3000 ∧ ∀ (j : Nat) (r : Rt), all[j]? = some r → FineR r) := ⟨_, rfl⟩
  rw [← hP]
  have HP := hide hP
  clear hP
  obtain ⟨m, hmm⟩ : ∃ m, m = all.length := ⟨_, rfl⟩
  rw [← hmm] at hm ⊢
  have HM := hide hmm
  clear hmm
  go_enter Try.func8, Try.ntmps8
  go_wp2_with fail
  go_loopw [3, 4] (fun n i wq => ∃ k x : Nat, k ≤ m ∧ i = .int .i64 k ∧ n = .int .i64 (x : Int) ∧ x ≤ 4611686018427387904 ∧ Hid (SmK all k x) ∧ Hid (Below w.heap.size w wq)) (fun _ i _ => m - (intOf i).toNat)
  case atStart => exact ⟨0, m, Nat.zero_le _, rfl, rfl, by omega, ⟨by rw [HM.out]; exact Nat.le_refl _, fun j r h => absurd h (by omega)⟩, Below.refl _ _⟩
  case round =>
    obtain ⟨k, x, hk, rfl, rfl, hx, HS, HB⟩ := hrel
    have hk0 : (0 : Int) ≤ (k : Int) := Int.natCast_nonneg _
    by_cases hlt : k < m
    · by_cases hx3 : x < 3000
      · have hmx : m < 3000 := by have := HS.out.1; have := HM.out; omega
        have hkl : k < all.length := by rw [← HM.out]; exact hlt
        obtain ⟨g, o, rfl, hc⟩ := (HR.out.below HB.out) (by omega)
        obtain ⟨pa, pc, ca, cc, ra, rc, rt⟩ := hc k _ (List.getElem?_eq_getElem hkl)
        have HG : Hid (all[k]? = some all[k]) := List.getElem?_eq_getElem hkl
        have hbg := HBG.out all[k] (List.getElem_mem hkl)
        generalize all[k] = r at *
        have HRT := hide rt
        have cp : wr.cell? ⟨g, o + k * 11 + 2, none⟩ = some (.int .i64 r.peer) := rt.1 2 _ rfl
        have zg := World.block_lt_of_cell? wr _ cp
        simp only at zg
        have HBR := hide hbg
        have h1 := hbg.path
        have h2 := hbg.comms
        clear hc rt hbg
        have hkm : (k : Int) < (m : Int) := by omega
        have hx3i : (x : Int) < 3000 := by omega
        go_wp2_with fail
        refine kept_load_intro _ _ _ (by rfl) (run_loadA_at HRT.out) ?_
        unfold atV
        go_wp2_with fail
        have e1 : (wr.alloc (.cells #[.int .i64 r.att.origin, .slice pa r.att.path.length pc, .int .u32 (r.att.next : Int), .int .i64 r.att.med, .int .i64 r.att.pref, .slice ca r.att.comms.length cc, .slice ra r.att.raws.length rc] 39)).cell? ⟨wr.heap.size, 1, none⟩ = some (.slice pa r.att.path.length pc) := by simp [go_sem]
        have e0 : (wr.alloc (.cells #[.int .i64 r.att.origin, .slice pa r.att.path.length pc, .int .u32 (r.att.next : Int), .int .i64 r.att.med, .int .i64 r.att.pref, .slice ca r.att.comms.length cc, .slice ra r.att.raws.length rc] 39)).cell? ⟨wr.heap.size, 0, none⟩ = some (.int .i64 r.att.origin) := by simp [go_sem]
        have e3 : (wr.alloc (.cells #[.int .i64 r.att.origin, .slice pa r.att.path.length pc, .int .u32 (r.att.next : Int), .int .i64 r.att.med, .int .i64 r.att.pref, .slice ca r.att.comms.length cc, .slice ra r.att.raws.length rc] 39)).cell? ⟨wr.heap.size, 3, none⟩ = some (.int .i64 r.att.med) := by simp [go_sem]
        have e4 : (wr.alloc (.cells #[.int .i64 r.att.origin, .slice pa r.att.path.length pc, .int .u32 (r.att.next : Int), .int .i64 r.att.med, .int .i64 r.att.pref, .slice ca r.att.comms.length cc, .slice ra r.att.raws.length rc] 39)).cell? ⟨wr.heap.size, 4, none⟩ = some (.int .i64 r.att.pref) := by simp [go_sem]
        have HB1 : Hid (Below wr.heap.size wr (wr.alloc (.cells #[.int .i64 r.att.origin, .slice pa r.att.path.length pc, .int .u32 (r.att.next : Int), .int .i64 r.att.med, .int .i64 r.att.pref, .slice ca r.att.comms.length cc, .slice ra r.att.raws.length rc] 39))) := (Below.refl _ _).alloc (Nat.le_refl _) _
        generalize wr.alloc (.cells #[.int .i64 r.att.origin, .slice pa r.att.path.length pc, .int .u32 (r.att.next : Int), .int .i64 r.att.med, .int .i64 r.att.pref, .slice ca r.att.comms.length cc, .slice ra r.att.raws.length rc] 39) = w1 at *
        have cp1 : w1.cell? ⟨g, o + k * 11 + 2, none⟩ = some (.int .i64 r.peer) := by rw [HB1.out.cell (p := ⟨g, o + k * 11 + 2, none⟩) zg]; exact cp
        have zg1 : g < w1.heap.size := by have := HB1.out.size; omega
        have zw1 := World.block_lt_of_cell? w1 _ e1
        simp only at zw1
        have HPT : Hid (PthRd w1 pa r.att.path) := (HRT.out.2.below HB1.out).path
        obtain ⟨x0, hx0⟩ : ∃ x0, x0 = x + r.att.path.length + r.att.comms.length := ⟨_, rfl⟩
        have hx0i : (x : Int) + (r.att.path.length : Int) + (r.att.comms.length : Int) = (x0 : Int) := by omega
        rw [hx0i]
        have HX0 := hide hx0
        have hxb : x0 ≤ 2305843009213700000 := by omega
        clear hx0 hx0i cp HRT h2
        obtain ⟨pl, hpl⟩ : ∃ pl, pl = r.att.path.length := ⟨_, rfl⟩
        rw [← hpl] at e1 h1
        have HPL := hide hpl
        clear hpl
        go_loop [3, 6] (fun n i => ∃ q y : Nat, q ≤ pl ∧ i = .int .i64 q ∧ n = .int .i64 (y : Int) ∧ y ≤ 4611686018427387904 ∧ Hid (y = x0 + sumP (r.att.path.take q))) (fun _ i => pl - (intOf i).toNat)
        case atStart => exact ⟨0, x0, Nat.zero_le _, rfl, rfl, by omega, by show x0 = x0 + sumP (r.att.path.take 0); rfl⟩
        case round =>
          obtain ⟨q, y, hq, rfl, rfl, hy, HY⟩ := hrel
          have hq0 : (0 : Int) ≤ (q : Int) := Int.natCast_nonneg _
          by_cases hgo : q < pl ∧ y < 3000
          · obtain ⟨hql, hy3⟩ := hgo
            have hqp : q < r.att.path.length := by rw [← HPL.out]; exact hql
            obtain ⟨b, off, rfl, hc⟩ := HPT.out.cells (by omega)
            obtain ⟨s0, a', c', s1, hrs⟩ := hc q _ (List.getElem?_eq_getElem hqp)
            have z0 := World.block_lt_of_cell? w1 _ s1
            simp only at z0
            have HT : Hid (sumP (r.att.path.take (q + 1)) = sumP (r.att.path.take q) + (r.att.path[q]).2.length) := by show sumP (r.att.path.take (q + 1)) = _; rw [List.take_succ_eq_append_getElem hqp, sumP_snoc]
            have hl : (r.att.path[q]).2.length ≤ 1152921504606846976 := HBR.out.segs _ (List.getElem_mem hqp)
            generalize (r.att.path[q]).2.length = l at *
            have jq : (q : Int) < (pl : Int) := by omega
            have jy : (y : Int) < 3000 := by omega
            clear hc s0 hrs hqp
            go_wp2
            exact ⟨⟨q + 1, y + l, by omega, by go_num, by go_num, by omega, by show y + l = _; rw [HT.out, HY.out]; omega⟩, by simp [intOf]; omega⟩
          · have HS9 : Hid (badB r.att.pref = false → badB r.att.med = false → badB r.att.origin = false → badB r.peer = false → SmK all (k + 1) y) := fun b1 b2 b3 b4 => by
              have hyx : x ≤ y := by have := HY.out; have := HX0.out; omega
              refine ⟨Nat.le_trans HS.out.1 hyx, fun j t hj ht => ?_⟩
              by_cases e : j = k
              · subst e
                rw [HG.out] at ht
                cases ht
                refine ⟨fun h3 => ?_, badB_in b1, badB_in b2, badB_in b3, badB_in b4⟩
                have hqe : q = pl := by
                  apply Classical.byContradiction
                  intro hne
                  exact hgo ⟨by omega, h3⟩
                have hy9 := HY.out
                rw [List.take_of_length_le (by rw [hqe, HPL.out]; exact Nat.le_refl _)] at hy9
                have := HX0.out
                omega
              · obtain ⟨q1, q2⟩ := HS.out.2 j t (by omega) ht
                exact ⟨fun h3 => by have := q1 (by omega); omega, q2⟩
            have HBW : Hid (Below w.heap.size w w1) := HB.out.trans (HB1.out.mono HB.out.size)
            have HYB : Hid (y ≤ 4611686018427387904) := hy
            have jgo : (decide (q < pl) = false ∧ decide ((q : Int) < (pl : Int)) = false) ∨ ((q : Int) < (pl : Int) ∧ decide ((y : Int) < 3000) = false) := by
              by_cases h : q < pl
              · exact Or.inr ⟨by omega, decide_eq_false (by have : ¬ y < 3000 := fun h9 => hgo ⟨h, h9⟩; omega)⟩
              · exact Or.inl ⟨decide_eq_false h, decide_eq_false (by omega)⟩
            clear hgo HS HY HX0 hxb hx3i hx3 HB1 HB hy HPT HG HBR
            have K1 := hide (bad_any r.att.pref)
            have K2 := hide (bad_any r.att.med)
            have K3 := hide (bad_any r.att.origin)
            have K4 := hide (bad_any r.peer)
            generalize badB r.att.pref = b1 at *
            generalize badB r.att.med = b2 at *
            generalize badB r.att.origin = b3 at *
            generalize badB r.peer = b4 at *
            rcases jgo with ⟨j1, j2⟩ | ⟨j1, j2⟩
            · go_wp2_with fail
              refine (K1.out _).mono ?_
              rintro e w2 ⟨rfl, rfl⟩
              cases b1 with
              | true =>
                clear HS9
                go_wp2
                go_ret
                exact ⟨⟨_, rfl, fun h => by cases h⟩, HBW.out⟩
              | false =>
                go_wp2_with fail
                refine (K2.out _).mono ?_
                rintro e w3 ⟨rfl, rfl⟩
                cases b2 with
                | true =>
                  clear HS9
                  go_wp2
                  go_ret
                  exact ⟨⟨_, rfl, fun h => by cases h⟩, HBW.out⟩
                | false =>
                  go_wp2_with fail
                  refine (K3.out _).mono ?_
                  rintro e w4 ⟨rfl, rfl⟩
                  cases b3 with
                  | true =>
                    clear HS9
                    go_wp2
                    go_ret
                    exact ⟨⟨_, rfl, fun h => by cases h⟩, HBW.out⟩
                  | false =>
                    go_wp2_with fail
                    refine (K4.out _).mono ?_
                    rintro e w5 ⟨rfl, rfl⟩
                    cases b4 with
                    | true =>
                      clear HS9
                      go_wp2
                      go_ret
                      exact ⟨⟨_, rfl, fun h => by cases h⟩, HBW.out⟩
                    | false =>
                      have HN := hide (HS9.out (by first | rfl | exact True.intro) (by first | rfl | exact True.intro) (by first | rfl | exact True.intro) (by first | rfl | exact True.intro))
                      clear HS9
                      go_wp2
                      exact ⟨⟨k + 1, y, by omega, by go_num, rfl, HYB.out, HN, HBW⟩, by simp [intOf]; omega⟩
            · go_wp2_with fail
              refine (K1.out _).mono ?_
              rintro e w2 ⟨rfl, rfl⟩
              cases b1 with
              | true =>
                clear HS9
                go_wp2
                go_ret
                exact ⟨⟨_, rfl, fun h => by cases h⟩, HBW.out⟩
              | false =>
                go_wp2_with fail
                refine (K2.out _).mono ?_
                rintro e w3 ⟨rfl, rfl⟩
                cases b2 with
                | true =>
                  clear HS9
                  go_wp2
                  go_ret
                  exact ⟨⟨_, rfl, fun h => by cases h⟩, HBW.out⟩
                | false =>
                  go_wp2_with fail
                  refine (K3.out _).mono ?_
                  rintro e w4 ⟨rfl, rfl⟩
                  cases b3 with
                  | true =>
                    clear HS9
                    go_wp2
                    go_ret
                    exact ⟨⟨_, rfl, fun h => by cases h⟩, HBW.out⟩
                  | false =>
                    go_wp2_with fail
                    refine (K4.out _).mono ?_
                    rintro e w5 ⟨rfl, rfl⟩
                    cases b4 with
                    | true =>
                      clear HS9
                      go_wp2
                      go_ret
                      exact ⟨⟨_, rfl, fun h => by cases h⟩, HBW.out⟩
                    | false =>
                      have HN := hide (HS9.out (by first | rfl | exact True.intro) (by first | rfl | exact True.intro) (by first | rfl | exact True.intro) (by first | rfl | exact True.intro))
                      clear HS9
                      go_wp2
                      exact ⟨⟨k + 1, y, by omega, by go_num, rfl, HYB.out, HN, HBW⟩, by simp [intOf]; omega⟩
      · have j3 : decide ((x : Int) < 3000) = false := decide_eq_false (by omega)
        have hkm : (k : Int) < (m : Int) := by omega
        clear hx3
        go_wp2
        go_ret
        exact ⟨⟨_, rfl, fun h => by cases h⟩, HB.out⟩
    · have hkm : k = m := by omega
      subst hkm
      have HPP : Hid (x < 3000 → P) := fun h3 => by
        rw [HP.out]
        refine ⟨by have := HS.out.1; omega, fun j r hr => ?_⟩
        have hj : j < k := by rw [HM.out]; exact (List.getElem?_eq_some_iff.1 hr).1
        obtain ⟨q1, q2, q3, q4, q5⟩ := HS.out.2 j r hj hr
        exact ⟨by have := q1 h3; omega, q2, q3, q4, q5⟩
      clear hlt
      go_wp2
      go_ret
      exact ⟨⟨_, rfl, fun h => HPP.out (by have h9 := of_decide_eq_true h; omega)⟩, HB.out⟩
end
end Go.Proofs.Ytolpaimmmhoiiaa
