/- ExportLoops' walk. -/
import Derived.Test.YtclihbfjendllaaDoorExV
import Derived.Test.YtclihbfjendllaaDoorKBc
import Derived.Test.YtclihbfjendllaaDoorExSl
import Derived.Test.YtclihbfjendllaaDoorRtBg
import Derived.Test.YtclihbfjendllaaDoorPthRd
import Derived.Test.YtclihbfjendllaaDoorAtSy
import Derived.Test.YtclihbfjendllaaDoorKBb
namespace Go.Proofs.YtclihbfjendllaaDoor
open Go.RowKit
set_option maxRecDepth 100000

/-- Where ExportLoops begins: its boxes. -/
structure LpQ (w w1 : World) (C0 C1 C2 : Array Value) : Prop where
  cf : Bk 24 w1 w.heap.size C0
  pf : Bk 27 w1 (w.heap.size + 1) C1
  rt : Bk 36 w1 (w.heap.size + 2) C2
  sz : w.heap.size + 3 ≤ w1.heap.size
  bl : Below w.heap.size w w1
theorem LpQ.later {w w1 w2 : World} {C0 C1 C2 : Array Value} (h : LpQ w w1 C0 C1 C2) (hb : Below w1.heap.size w1 w2) : LpQ w w2 C0 C1 C2 :=
  ⟨h.cf.below hb h.cf.lt, h.pf.below hb h.pf.lt, h.rt.below hb h.rt.lt, by have := hb.size; have := h.sz; omega, h.bl.trans (hb.mono h.bl.size)⟩
theorem lpq_start (w : World) (C0 C1 C2 : Array Value) : LpQ w (((w.alloc (.cells C0 24)).alloc (.cells C1 27)).alloc (.cells C2 36)) C0 C1 C2 := by
  have s1 : (w.alloc (.cells C0 24)).heap.size = w.heap.size + 1 := by simp
  have s2 : ((w.alloc (.cells C0 24)).alloc (.cells C1 27)).heap.size = w.heap.size + 2 := by simp
  refine ⟨((Bk.new _ w C0).alloc _).alloc _, ?_, ?_, by simp, (((Below.refl _ _).alloc (Nat.le_refl _) _).alloc (by omega) _).alloc (by omega) _⟩
  · have := (Bk.new 27 (w.alloc (.cells C0 24)) C1).alloc (.cells C2 36)
    rwa [s1] at this
  · have := Bk.new 36 ((w.alloc (.cells C0 24)).alloc (.cells C1 27)) C2
    rwa [s2] at this
/-- An operation that is wanted. -/
theorem op_want {P : Program} {ops : Array Oper} {Q : Exit → Act → World → Prop} {i : Nat} {o : Oper} {K : Act → World → Prop} {a : Act} {w : World} (hi : ops[i]? = some o) (hw : Region.wanted o (yielded ops a.tmps) = true) (h : o.wp P a w K Q) : wpOp P ops Q i K a w := by
  unfold wpOp
  rw [hi]
  simp only [hw, if_true]
  exact .inl h
section
attribute [local go_sem ↓] keptC_load keptC_box keptP_load keptP_box keptR_box keptR_load keptA_load keptA_store keptA_alloc keptA_build
set_option maxHeartbeats 6400000 in
theorem exportLoops_walk (c : Cfg) (pe : Pcf) (ia : Option Addr) (ic : Nat) (oa : Option Addr) (oc : Nat) (pa : Option Addr) (pc : Nat) (ca : Option Addr) (cc : Nat) (ra : Option Addr) (rc : Nat) (r : Rt) (src : Int) (w : World) (hS : Said w) (hcn : c.next < 4294967296) (hr : RulesIn w oa pe.out) (hA : r.A < 4294967296) (hg : BigR r) (hrd : AtRd w pa ca ra r.att) :
    Calls Tryd.prog 4 #[.agg (cfgC c), .agg (pcfC ia ic oa oc pe), .agg (rtC pa pc ca cc ra rc r), .int .i64 src] w fun e w' => e = .returned (.bool true) ∧ Below w.heap.size w w' := by
  have g0 : (cfgC c)[0]? = some (.int .i64 c.asn) := rfl
  have g1 : (cfgC c)[2]? = some (.int .u32 (c.next : Int)) := rfl
  have f0 : (pcfC ia ic oa oc pe)[0]? = some (.int .i64 pe.num) := rfl
  have f1 : (pcfC ia ic oa oc pe)[1]? = some (.int .i64 pe.asn) := rfl
  have f3 : (pcfC ia ic oa oc pe)[3]? = some (.slice oa pe.out.length oc) := rfl
  have r2 : (rtC pa pc ca cc ra rc r)[2]? = some (.int .i64 r.peer) := rfl
  have r4 : (rtC pa pc ca cc ra rc r)[4]? = some (.slice pa r.att.path.length pc) := rfl
  have r5 : (rtC pa pc ca cc ra rc r)[5]? = some (.int .u32 (r.att.next : Int)) := rfl
  have n0 : (cfgC c).size = 8 := rfl
  have n1 : (pcfC ia ic oa oc pe).size = 4 := rfl
  have n2 : (rtC pa pc ca cc ra rc r).size = 11 := rfl
  have HRD := hide hrd
  have HNX := hide hrd.next
  have HRB := hide hrd.raws.bytes
  have HCN := hide hcn
  have HSM := hide (fun (w1 : World) (hb : Below w.heap.size w w1) => smalla_any pa pc ca cc ra rc r.att w1 hg.path hg.segs hg.comms hg.raws hg.datas (hrd.below hb))
  have HSZ := hide (fun (h : smallA r.att = true) => (of_decide_eq_true h : sizeA r.att < 3000))
  have HANS := hide (fun (w1 : World) (hb : Below w.heap.size w w1) => answers_any w1 (hS.below hb))
  have HEX := hide (fun (w1 : World) (ho : pe.out.length ≤ 1000) (hl : sizeA r.att ≤ 50000) (hb : Below w.heap.size w w1) => pexport_any c pe ia ic oa oc true pa pc ca cc ra rc r src w1 (hS.below hb) hl (hrd.below hb) ho (hr.below hb (Nat.le_refl _)) hA hcn)
  have HATT := hide (fun (w1 : World) (X : Nat) (h : Bk 36 w1 X (rtC pa pc ca cc ra rc r)) => h.att)
  have HSO := hide (fun ta (h : exportR c pe true r src = some ta) => (export_some h).1)
  have HSA := hide (fun ta (h : exportR c pe true r src = some ta) (hs : pe.asn = c.asn) => export_same h hs)
  have HOT := hide (fun ta (h : exportR c pe true r src = some ta) (hs : ¬ pe.asn = c.asn) => export_other h hs)
  have HTS := hide (fun ta (h : exportR c pe true r src = some ta) => (show sizeA ta ≤ sizeA r.att + 2 by rw [(export_some h).2.1]; exact toldA_size c pe r.att))
  clear hS hr hA hcn hg hrd
  obtain ⟨q, hq⟩ : ∃ q : Nat, q = pe.out.length := ⟨_, rfl⟩
  rw [← hq] at f3 HEX
  clear hq
  generalize exportR c pe true r src = ex at *
  generalize cfgC c = C0 at *
  generalize pcfC ia ic oa oc pe = C1 at *
  generalize rtC pa pc ca cc ra rc r = C2 at *
  have HS := hide (lpq_start w C0 C1 C2)
  go_enter Tryd.func4, Tryd.ntmps4
  go_wp2_with fail
  refine kept_box_intro _ _ _ (by rfl) (run_boxS _ C0 w) ?_
  go_wp2_with fail
  refine kept_box_intro _ _ _ (by rfl) (run_boxS _ C1 _) ?_
  go_wp2_with fail
  refine kept_box_intro _ _ _ (by rfl) (run_boxS _ C2 _) ?_
  simp only [World.size_alloc]
  generalize World.alloc (World.alloc (World.alloc w _) _) _ = w1 at *
  go_wp2_with fail
  refine kept_load_intro _ _ (.agg (atC pa pc ca cc ra rc r.att)) (by rfl) (HATT.out _ _ HS.out.rt) ?_
  go_wp2_with fail
  refine (HSM.out w1 HS.out.bl).mono ?_
  rintro e w2 ⟨rfl, b2⟩
  have HS2 := hide (HS.out.later b2)
  clear HS b2 HSM
  cases hsm : smallA r.att with
  | false =>
    go_wp2_with fail
    refine (HANS.out _ HS2.out.bl).mono ?_
    rintro e w3 ⟨rfl, b3⟩
    have HS3 := hide (HS2.out.later b3)
    go_wp2_with fail
    go_ret
    exact ⟨rfl, HS3.out.bl⟩
  | true =>
    have hsz := HSZ.out hsm
    have p3 := HS2.out.pf.cell 3 f3
    cases hql : decide (100 < (q : Int)) with
    | true =>
      go_wp2_with fail
      refine (HANS.out _ HS2.out.bl).mono ?_
      rintro e w3 ⟨rfl, b3⟩
      have HS3 := hide (HS2.out.later b3)
      go_wp2_with fail
      go_ret
      exact ⟨rfl, HS3.out.bl⟩
    | false =>
      have hq1 : q ≤ 1000 := by have := of_decide_eq_false hql; omega
      go_wp2_with fail
      refine kept_load_intro _ _ (.agg C0) (by rfl) (HS2.out.cf.whole _ Tryd.underlying24 rfl (by rw [infoC, n0])) ?_
      go_wp2_with fail
      refine kept_load_intro _ _ (.agg C1) (by rfl) (HS2.out.pf.whole _ Tryd.underlying27 rfl (by rw [infoPc, n1])) ?_
      go_wp2_with fail
      refine kept_load_intro _ _ (.agg C2) (by rfl) (HS2.out.rt.whole _ Tryd.underlying36 rfl (by rw [infoR, n2])) ?_
      go_wp2_with fail
      refine (HEX.out _ hq1 (by omega) HS2.out.bl).mono ?_
      rintro e w3 ⟨he, b3⟩
      have HS3 := hide (HS2.out.later b3)
      have hsz3 := HS3.out.sz
      have hsz2 := HS2.out.sz
      clear HS2 b3 p3 HEX
      cases ex with
      | none =>
        obtain rfl : e = .returned (.tuple #[.agg zA, .bool false]) := he
        go_wp2_with fail
        refine kept_alloc_intro _ (run_allocA _) ?_
        go_wp2_with fail
        refine kept_store_intro _ _ _ (.agg (zA)) (by rfl) (by rfl) (run_storeAb (Ab.new w3 zA) rfl AC.zero) ?_
        have hb4 : Below w3.heap.size w3 ((w3.alloc (.cells zA 34)).setCells w3.heap.size 0 (zA).toList) := below_puts ((Below.refl _ _).alloc (Nat.le_refl _) _) (Nat.le_refl _) _
        have HX4 : Hid (Ab ((w3.alloc (.cells zA 34)).setCells w3.heap.size 0 (zA).toList) w3.heap.size (zA)) := (Ab.new w3 zA).put rfl
        have HS4 := hide (HS3.out.later hb4)
        clear hb4 HS3
        generalize (w3.alloc (.cells zA 34)).setCells w3.heap.size 0 (zA).toList = w4 at *
        generalize w3.heap.size = X at *
        go_wp2_with fail
        refine (HANS.out _ HS4.out.bl).mono ?_
        rintro e w5 ⟨rfl, b5⟩
        have HS5 := hide (HS4.out.later b5)
        have HX5 := hide (HX4.out.below b5)
        clear HS4 HX4 b5
        go_wp2_with fail
        refine kept_load_intro _ _ (.agg zA) (by rfl) (run_loadAb HX5.out AC.zero) ?_
        go_wp2_with fail
        refine kept_build0_intro _ (run_build0A _) ?_
        go_wp2_with fail
        have HSE := hide (samea_any none none 0 0 none none 0 0 none none 0 0 noAt noAt w5 (by decide) (by decide) (atrd_nil w5 0 0 0 0 (by decide)) (atrd_nil w5 0 0 0 0 (by decide)))
        have hz0 : (.agg zA : Value) = atV none 0 none 0 none 0 noAt := rfl
        rw [hz0]
        refine HSE.out.mono ?_
        rintro e w6 ⟨rfl, b6⟩
        have HE : Hid (eqA noAt noAt = true) := by show _ = _; decide
        have HB6 : Hid (Below w.heap.size w w6) := HS5.out.bl.trans (b6.mono HS5.out.bl.size)
        clear b6 HSE
        generalize eqA noAt noAt = eq at *
        obtain rfl := HE.out
        go_wp2_with fail
        go_ret
        exact ⟨rfl, HB6.out⟩
      | some ta =>
        obtain ⟨pa9, pc9, ca9, cc9, ra9, rc9, rfl, ho3⟩ := he
        have HO3 := hide ho3
        clear ho3
        have hpq := HSO.out ta rfl
        have hta := HTS.out ta rfl
        go_wp2_with fail
        refine kept_alloc_intro _ (run_allocA _) ?_
        go_wp2_with fail
        refine kept_store_intro _ _ _ (.agg (atC pa9 pc9 ca9 cc9 ra9 rc9 ta)) (by rfl) (by rfl) (run_storeAb (Ab.new w3 zA) rfl (AC.of _ _ _ _ _ _ _)) ?_
        have hb4 : Below w3.heap.size w3 ((w3.alloc (.cells zA 34)).setCells w3.heap.size 0 (atC pa9 pc9 ca9 cc9 ra9 rc9 ta).toList) := below_puts ((Below.refl _ _).alloc (Nat.le_refl _) _) (Nat.le_refl _) _
        have HX4 : Hid (Ab ((w3.alloc (.cells zA 34)).setCells w3.heap.size 0 (atC pa9 pc9 ca9 cc9 ra9 rc9 ta).toList) w3.heap.size (atC pa9 pc9 ca9 cc9 ra9 rc9 ta)) := (Ab.new w3 zA).put rfl
        have HS4 := hide (HS3.out.later hb4)
        have HO4 := hide (HO3.out.later hb4)
        clear HO3
        clear hb4 HS3
        generalize (w3.alloc (.cells zA 34)).setCells w3.heap.size 0 (atC pa9 pc9 ca9 cc9 ra9 rc9 ta).toList = w4 at *
        generalize w3.heap.size = X at *
        have HP4 : Hid (∀ W, Below w4.heap.size w4 W → PthRd W pa9 ta.path) := fun W hb => by
          have h := (HO4.out.later hb).path
          obtain ⟨_, _, e1, h1⟩ := h.rd (by have := hta; unfold sizeA at this hsz; omega) (fun s hs2 => by have := sumP_mem _ _ hs2; have := hta; unfold sizeA at this hsz; omega)
          injection e1 with e1 _ _
          subst e1
          exact h1
        have k1 : w4.cell? ⟨X, 1, none⟩ = some (.slice pa9 ta.path.length pc9) := HX4.out.cell 1 rfl
        have c0 := HS4.out.cf.cell 0 g0
        have p0 := HS4.out.pf.cell 0 f0
        have p1 := HS4.out.pf.cell 1 f1
        have q2 := HS4.out.rt.cell 2 r2
        go_wp2_with fail
        refine (rfirst_any pa9 pc9 ta.path w4 (HP4.out w4 (Below.refl _ _))).mono ?_
        rintro e w5 ⟨rfl, rfl⟩
        have HLS := hide (lenP_le r.att.path)
        have hsz9 : r.att.path.length + sumP r.att.path ≤ 3000 := by unfold sizeA at hsz; omega
        have hta9 : ta.path.length + sumP ta.path ≤ 100000 := by unfold sizeA at hta hsz; omega
        have r4' := HS4.out.rt.cell 4 r4
        have r5' := HS4.out.rt.cell 5 r5
        have HPR : Hid (∀ W, Below w5.heap.size w5 W → PthRd W pa r.att.path) := fun W hb => HRD.out.path.below (HS4.out.bl.trans (hb.mono HS4.out.bl.size))
        cases hs : (pe.asn == c.asn) with
        | true =>
          obtain ⟨hpf, hnx, hpa⟩ := HSA.out ta rfl (by simpa using hs)
          have HPA := hide hpa
          have HNA := hide hnx
          have hpf1 : decide (0 ≤ ta.pref) = true := decide_eq_true hpf
          clear hpa hnx HOT HSA
          obtain ⟨x, y, hxy⟩ : ∃ x y, firstV (firstP ta.path) = .tuple #[.int .i64 x, .bool y] := by
            cases firstP ta.path with
            | none => exact ⟨_, _, rfl⟩
            | some z => exact ⟨_, _, rfl⟩
          rw [hxy]
          clear hxy
          go_wp2_with fail
          refine (HANS.out _ HS4.out.bl).mono ?_
          rintro e w6 ⟨rfl, b6⟩
          have HX6 := hide (HX4.out.below b6)
          have HS6 := hide (HS4.out.later b6)
          have HP6 := hide (HP4.out _ b6)
          have HR6 := hide (HPR.out _ b6)
          clear k1 c0 p0 p1 q2 r4' r5' HX4 HS4 HP4 HPR b6
          have k1 : w6.cell? ⟨X, 1, none⟩ = some (.slice pa9 ta.path.length pc9) := HX6.out.cell 1 rfl
          have k2 : w6.cell? ⟨X, 2, none⟩ = some (.int .u32 (r.att.next : Int)) := by rw [← HNA.out]; exact HX6.out.cell 2 rfl
          have k4 : w6.cell? ⟨X, 4, none⟩ = some (.int .i64 ta.pref) := HX6.out.cell 4 rfl
          have r4' := HS6.out.rt.cell 4 r4
          have r5' := HS6.out.rt.cell 5 r5
          go_wp2_with fail
          refine (samepath_any pa9 pa pc9 pc ta.path r.att.path w6 hta9 (by omega) HP6.out HR6.out).mono ?_
          rintro e w7 ⟨rfl, m, rfl⟩
          have HE : Hid (eqP ta.path r.att.path = true) := decide_eq_true HPA.out
          generalize eqP ta.path r.att.path = eq at *
          obtain rfl := HE.out
          go_wp2_with fail
          go_ret
          exact ⟨rfl, below_drewN HS6.out.bl m⟩
        | false =>
          obtain ⟨hpa, hnx, hmd, hpf⟩ := HOT.out ta rfl (by simpa using hs)
          have HLP : Hid (lenP ta.path = lenP r.att.path + 1) := by show _ = _; rw [hpa]; exact lenP_prep _ _
          have hfp : firstV (firstP ta.path) = .tuple #[.int .i64 c.asn, .bool true] := by rw [hpa, firstP_prep]; rfl
          rw [hfp]
          have s2 : w5.cell? ⟨X, 2, none⟩ = some (.int .u32 (c.next : Int)) := by rw [← hnx]; exact HX4.out.cell 2 rfl
          have s3 : w5.cell? ⟨X, 3, none⟩ = some (.int .i64 (-1)) := by rw [← hmd]; exact HX4.out.cell 3 rfl
          have s4 : w5.cell? ⟨X, 4, none⟩ = some (.int .i64 (-1)) := by rw [← hpf]; exact HX4.out.cell 4 rfl
          have c1 := HS4.out.cf.cell 2 g1
          have KL1 := hide (fun (W : World) (h : PthRd W pa9 ta.path) => rlen_any pa9 pc9 ta.path W hta9 h)
          have KL2 := hide (fun (W : World) (h : PthRd W pa r.att.path) => rlen_any pa pc r.att.path W (by omega) h)
          rw [HLP.out] at KL1
          have hlb : lenP r.att.path ≤ 3000 := by have := HLS.out; omega
          generalize lenP r.att.path = ln at *
          clear hpa hnx hmd hpf hfp HLP HOT HSA
          have qd : ∀ W, Below w5.heap.size w5 W → W.cell? ⟨X, 1, none⟩ = some (.slice pa9 ta.path.length pc9) ∧ W.cell? ⟨X, 2, none⟩ = some (.int .u32 (c.next : Int)) ∧ W.cell? ⟨X, 3, none⟩ = some (.int .i64 (-1)) ∧ W.cell? ⟨X, 4, none⟩ = some (.int .i64 (-1)) ∧ W.cell? ⟨w.heap.size, 0, none⟩ = some (.int .i64 c.asn) ∧ W.cell? ⟨w.heap.size, 2, none⟩ = some (.int .u32 (c.next : Int)) ∧ W.cell? ⟨w.heap.size + 2, 4, none⟩ = some (.slice pa r.att.path.length pc) := fun W hb =>
            ⟨by rw [hb.cell (World.block_lt_of_cell? w5 _ k1)]; exact k1, by rw [hb.cell (World.block_lt_of_cell? w5 _ s2)]; exact s2, by rw [hb.cell (World.block_lt_of_cell? w5 _ s3)]; exact s3, by rw [hb.cell (World.block_lt_of_cell? w5 _ s4)]; exact s4, by rw [hb.cell (World.block_lt_of_cell? w5 _ c0)]; exact c0, by rw [hb.cell (World.block_lt_of_cell? w5 _ c1)]; exact c1, by rw [hb.cell (World.block_lt_of_cell? w5 _ r4')]; exact r4'⟩
          go_wp2_with fail
          refine region_pre2 (fun W => Below w5.heap.size w5 W) [] 36 (Array.replicate 36 false) (by kernel_rfl) (by kernel_rfl) (by rfl) (by kernel_rfl) (by rfl) (Below.refl _ _).drew ?_
          show wpAnyH _ _ _ _ _ _ _ _ _
          refine wpAnyH_all (rs := [0]) (by kernel_rfl) (by simp) fun i hi => ?_
          obtain rfl : i = 0 := by simpa using hi
          refine op_plain (by rfl) (by rfl) ?_
          go_simp
          refine (HANS.out _ (HS4.out.bl.trans ((Below.refl _ _).drew.mono HS4.out.bl.size))).mono ?_
          rintro e w6 ⟨rfl, b6⟩
          have B6 : Below w5.heap.size w5 w6 := (Below.refl _ _).drew.trans b6
          have HP6 := hide (HP4.out _ B6)
          have HR6 := hide (HPR.out _ B6)
          have HB6 : Hid (Below w.heap.size w w6) := HS4.out.bl.trans (B6.mono HS4.out.bl.size)
          refine ⟨B6, ?_⟩
          refine anyH_next [1, 2, 3, 4, 5, 6, 7, 8, 9, 10, 11, 12, 13, 14, 15, 16, 17, 18, 19, 20, 21, 22, 23, 24, 25, 26, 28, 29, 30] 6 (by kernel_rfl) (by rfl) (by kernel_rfl) B6 ?_
          iterate 29 refine pre_q (by rfl) (by rfl) (fun w9 h9 => (by obtain ⟨t1, t2, t3, t4, t5, t6, t7⟩ := qd w9 h9; go_simp; first | done | rfl)) (by go_simp; first | done | rfl) ?_
          show wpAnyH _ _ _ _ _ _ _ _ _
          refine wpAnyH_all (rs := [27]) (by kernel_rfl) (by simp) fun i hi => ?_
          obtain rfl : i = 27 := by simpa using hi
          refine op_want (by rfl) (by rfl) ?_
          go_simp
          refine (KL1.out _ HP6.out).mono ?_
          rintro e w7 ⟨rfl, rfl⟩
          refine ⟨B6, ?_⟩
          refine wpAnyH_all (rs := [31]) (by kernel_rfl) (by simp) fun i hi => ?_
          obtain rfl : i = 31 := by simpa using hi
          refine op_want (by rfl) (by rfl) ?_
          go_simp
          refine (KL2.out _ HR6.out).mono ?_
          rintro e w8 ⟨rfl, rfl⟩
          refine ⟨B6, ?_⟩
          refine anyH_next [32, 33, 34, 35] 0 (by kernel_rfl) (by rfl) (by kernel_rfl) B6 ?_
          iterate 4 refine pre_q (by rfl) (by rfl) (fun w9 h9 => (by obtain ⟨t1, t2, t3, t4, t5, t6, t7⟩ := qd w9 h9; go_simp; first | done | rfl)) (by go_simp; first | done | rfl) ?_
          show wpAnyH _ _ _ _ _ _ _ _ _
          refine ⟨by kernel_rfl, ?_⟩
          refine ⟨fun _ h => (by cases h), ?_⟩
          go_wp2
          go_ret
          have hw9 : IntKind.i64.wrap ((ln : Int) + 1) = (ln : Int) + 1 := by rw [IntKind.wrap_i64]; omega
          exact ⟨by show Ending.returned (Value.bool (((ln : Int) + 1) == IntKind.i64.wrap ((ln : Int) + 1))) = _; rw [hw9, beq_self_eq_true], HB6.out⟩
end
end Go.Proofs.YtclihbfjendllaaDoor
