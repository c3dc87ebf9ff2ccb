/- The program's Export. -/
import Derived.Test.YthigjonagbfbbaaDoorExM
import Derived.Test.YthigjonagbfbbaaDoorKAw
import Derived.Deep.DeepCutAuto
namespace Go.Proofs.YthigjonagbfbbaaDoor
open Go.RowKit
set_option maxRecDepth 100000

theorem toldA_eq (c : Cfg) (pe : Pcf) (a : At) : toldA c pe a = if pe.asn = c.asn then ourA a else othA c a := rfl
theorem tellB_eq (c : Cfg) (pe : Pcf) (ll : Bool) (r : Rt) (src : Int) : tellB c pe ll r src = !(goesB c pe r src || !(applyR pe.out r.A r.L).2 || ((r.stale == 2) && !ll)) := by
  have e1 : decide (r.peer = pe.num) = (r.peer == pe.num) := rfl
  have e2 : decide (src = c.asn) = (src == c.asn) := rfl
  have e3 : decide (pe.asn = c.asn) = (pe.asn == c.asn) := rfl
  have e4 : decide (r.stale = 2) = (r.stale == 2) := rfl
  unfold tellB goesB
  rw [e1, e2, e3, e4]
  cases (applyR pe.out r.A r.L).2 <;> cases (r.peer == pe.num) <;> cases decide (0 ≤ r.peer) <;> cases (src == c.asn) <;> cases (pe.asn == c.asn) <;> cases (r.stale == 2) <;> cases ll <;> rfl
theorem prepP_size (z : Int) (ss : List (Bool × List Int)) : (prepP z ss).length + sumP (prepP z ss) ≤ ss.length + sumP ss + 2 := by
  cases ss with
  | nil => simp [prepP, sumP]
  | cons s r =>
    by_cases h : s.1 = false ∧ s.2.length ≤ 254
    · rw [prepP, if_pos h]
      simp only [sumP, List.length_cons]
      omega
    · rw [prepP, if_neg h]
      simp only [sumP, List.length_cons, List.length_nil]
      omega
theorem othA_size (c : Cfg) (a : At) : sizeA (othA c a) ≤ sizeA a + 2 := by
  have := prepP_size c.asn a.path
  unfold sizeA othA
  simp only
  omega
theorem toldA_size (c : Cfg) (pe : Pcf) (a : At) : sizeA (toldA c pe a) ≤ sizeA a + 2 := by
  rw [toldA_eq]
  split
  · have : sizeA (ourA a) = sizeA a := rfl
    omega
  · exact othA_size c a
theorem OwnAt.ours {w : World} {B : Nat} {pa : Option Addr} {pc : Nat} {ca : Option Addr} {cc : Nat} {ra : Option Addr} {rc : Nat} {a : At} (h : OwnAt w B pa pc ca cc ra rc a) : OwnAt w B pa pc ca cc ra rc (ourA a) := ⟨h.path, h.comms, h.raws⟩
/-- The program's Export's answer. -/
def ExpP (N : Nat) (w' : World) (e : Ending) : Option At → Prop
  | none => e = .returned (.tuple #[.agg zA, .bool false])
  | some a => ∃ pa pc ca cc ra rc, e = .returned (.tuple #[.agg (atC pa pc ca cc ra rc a), .bool true]) ∧ OwnAt w' N pa pc ca cc ra rc a
/-- Where Export begins: its boxes. -/
structure ExQ (w w1 : World) (C0 C1 C2 A : Array Value) : Prop where
  cf : Bk 24 w1 w.heap.size C0
  pf : Bk 27 w1 (w.heap.size + 1) C1
  rt : Bk 36 w1 (w.heap.size + 2) C2
  res : Ab w1 (w.heap.size + 3) A
  sz : w.heap.size + 4 ≤ w1.heap.size
  bl : Below w.heap.size w w1
theorem ExQ.later {w w1 w2 : World} {C0 C1 C2 A : Array Value} (h : ExQ w w1 C0 C1 C2 A) (hb : Below w1.heap.size w1 w2) : ExQ w w2 C0 C1 C2 A :=
  ⟨h.cf.below hb h.cf.lt, h.pf.below hb h.pf.lt, h.rt.below hb h.rt.lt, h.res.below hb, by have := hb.size; have := h.sz; omega, h.bl.trans (hb.mono h.bl.size)⟩
theorem ExQ.turn {w w1 w2 : World} {B : Nat} {C0 C1 C2 A : Array Value} (h : ExQ w w1 C0 C1 C2 A) (hb : Below B w1 w2) (hB : w.heap.size + 4 ≤ B) : ExQ w w2 C0 C1 C2 A :=
  ⟨h.cf.below hb (by omega), h.pf.below hb (by omega), h.rt.below hb (by omega), by unfold Ab; rw [hb.block _ (by omega)]; exact h.res, by have := hb.size; have := h.sz; omega, h.bl.trans (hb.mono (by omega))⟩
theorem exq_start (w : World) (C0 C1 C2 : Array Value) : ExQ w ((((w.alloc (.cells C0 24)).alloc (.cells C1 27)).alloc (.cells C2 36)).alloc (.cells zA 34)) C0 C1 C2 zA := by
  have s1 : (w.alloc (.cells C0 24)).heap.size = w.heap.size + 1 := by simp
  have s2 : ((w.alloc (.cells C0 24)).alloc (.cells C1 27)).heap.size = w.heap.size + 2 := by simp
  have s3 : (((w.alloc (.cells C0 24)).alloc (.cells C1 27)).alloc (.cells C2 36)).heap.size = w.heap.size + 3 := by simp
  refine ⟨(((Bk.new _ w C0).alloc _).alloc _).alloc _, ?_, ?_, ?_, by simp, ((((Below.refl _ _).alloc (Nat.le_refl _) _).alloc (by omega) _).alloc (by omega) _).alloc (by omega) _⟩
  · have := ((Bk.new 27 (w.alloc (.cells C0 24)) C1).alloc (.cells C2 36)).alloc (.cells zA 34)
    rwa [s1] at this
  · have := (Bk.new 36 ((w.alloc (.cells C0 24)).alloc (.cells C1 27)) C2).alloc (.cells zA 34)
    rwa [s2] at this
  · have := Ab.new (((w.alloc (.cells C0 24)).alloc (.cells C1 27)).alloc (.cells C2 36)) zA
    rwa [s3] at this
section
attribute [local go_sem ↓] keptC_load keptC_box keptP_load keptP_box keptR_box keptR_load keptA_load keptA_store keptA_alloc keptA_build
set_option maxHeartbeats 3200000 in
theorem pexport_any (c : Cfg) (pe : Pcf) (ia : Option Addr) (ic : Nat) (oa : Option Addr) (oc : Nat) (ll : Bool) (pa : Option Addr) (pc : Nat) (ca : Option Addr) (cc : Nat) (ra : Option Addr) (rc : Nat) (r : Rt) (src : Int) (w : World) (hS : Said w) (hl : sizeA r.att ≤ 50000) (hrd : AtRd w pa ca ra r.att) (ho : pe.out.length ≤ 1000) (hr : RulesIn w oa pe.out) (hA : r.A < 4294967296) (hcn : c.next < 4294967296) :
    Calls Tryd.prog 10 #[.agg (cfgC c), .agg (pcfC ia ic oa oc pe), .bool ll, .agg (rtC pa pc ca cc ra rc r), .int .i64 src] w fun e w' => ExpP w.heap.size w' e (exportR c pe ll r src) ∧ Below w.heap.size w w' := by
  have g2 : (pcfC ia ic oa oc pe)[1]? = some (.int .i64 pe.asn) := rfl
  have n0 : (cfgC c).size = 8 := rfl
  have n1 : (pcfC ia ic oa oc pe).size = 4 := rfl
  have n2 : (rtC pa pc ca cc ra rc r).size = 11 := rfl
  have HBACK := hide (fun w => goesBack_any c pe ia ic oa oc pa pc ca cc ra rc r src w)
  have HALL := hide (fun (w1 : World) (hb : Below w.heap.size w w1) => isAllowed_any pe ia ic oa oc pa pc ca cc ra rc r w1 ho (hr.below hb (Nat.le_refl _)) hA)
  have HSTALE := hide (fun w => isTooStale_any ll pa pc ca cc ra rc r w)
  have HIS := hide (fun w => isOurs_any c pe.asn w)
  have HOUR := hide (fun (w1 : World) (hb : Below w.heap.size w w1) => toOurs_any pa pc ca cc ra rc r w1 (by omega) (hrd.below hb))
  have HOTH := hide (fun (w1 : World) (hb : Below w.heap.size w w1) => toOthers_any c pa pc ca cc ra rc r w1 hl (hrd.below hb))
  have HGOOD := hide (fun (pa : Option Addr) (pc : Nat) (ca : Option Addr) (cc : Nat) (ra : Option Addr) (rc : Nat) (a : At) (w1 : World) (hb : Below w.heap.size w w1) (hl : sizeA a ≤ 100000) (h : AtRd w1 pa ca ra a) => pgood_any pa pc ca cc ra rc a w1 (hS.below hb) hl h)
  have HT := hide (tellB_eq c pe ll r src)
  have HSZ := hide (toldA_size c pe r.att)
  have HL := hide hl
  have HNX := hide hrd.next
  have HRB := hide hrd.raws.bytes
  have HS := hide (exq_start w (cfgC c) (pcfC ia ic oa oc pe) (rtC pa pc ca cc ra rc r))
  have HCN := hide hcn
  clear hS hl hrd ho hr hA hcn
  have HE : Hid (exportR c pe ll r src = if tellB c pe ll r src && goodA (toldA c pe r.att) then some (toldA c pe r.att) else none) := rfl
  generalize exportR c pe ll r src = ex at *
  generalize tellB c pe ll r src = tb at *
  generalize goesB c pe r src = gb at *
  generalize (applyR pe.out r.A r.L).2 = al at *
  obtain ⟨sb, hsb⟩ : ∃ sb, sb = ((r.stale == 2) && !ll) := ⟨_, rfl⟩
  rw [← hsb] at HT HSTALE
  clear hsb
  generalize cfgC c = C0 at *
  generalize pcfC ia ic oa oc pe = C1 at *
  obtain ⟨C2, hC2⟩ : ∃ C2, C2 = rtC pa pc ca cc ra rc r := ⟨_, rfl⟩
  rw [← hC2] at n2 HBACK HALL HSTALE HOUR HOTH HS ⊢
  have HC2 := hide hC2
  clear hC2
  go_enter Tryd.func10, Tryd.ntmps10
  go_wp2_with fail
  refine kept_box_intro _ _ _ (by rfl) (run_boxS _ C0 w) ?_
  go_wp2_with fail
  refine kept_box_intro _ _ _ (by rfl) (run_boxS _ C1 _) ?_
  go_wp2_with fail
  refine kept_box_intro _ _ _ (by rfl) (run_boxS _ C2 _) ?_
  go_wp2_with fail
  refine kept_alloc_intro _ (run_allocA _) ?_
  simp only [World.size_alloc]
  generalize World.alloc (World.alloc (World.alloc (World.alloc w _) _) _) _ = w1 at *
  go_upto_region 1 with fail
  go_cut [28] (fun v wq => v = .bool (!tb) ∧ Hid (ExQ w wq C0 C1 C2 zA))
  case first =>
    go_wp2_with fail
    refine kept_load_intro _ _ (.agg C0) (by rfl) (HS.out.cf.whole _ Tryd.underlying24 rfl (by rw [infoC, n0])) ?_
    go_wp2_with fail
    refine kept_load_intro _ _ (.agg C1) (by rfl) (HS.out.pf.whole _ Tryd.underlying27 rfl (by rw [infoPc, n1])) ?_
    go_wp2_with fail
    refine kept_load_intro _ _ (.agg C2) (by rfl) (HS.out.rt.whole _ Tryd.underlying36 rfl (by rw [infoR, n2])) ?_
    go_wp2_with fail
    refine (HBACK.out w1).mono ?_
    rintro e w2 ⟨rfl, b2⟩
    have HS2 := hide (HS.out.later b2)
    clear HS b2
    cases gb with
    | true =>
      have HV : Hid ((!tb) = true) := by show _ = _; rw [HT.out]; rfl
      go_wp2_with fail
      go_meet
      case rel => exact ⟨by rw [HV.out], HS2⟩
    | false =>
      go_wp2_with fail
      refine kept_load_intro _ _ (.agg C1) (by rfl) (HS2.out.pf.whole _ Tryd.underlying27 rfl (by rw [infoPc, n1])) ?_
      go_wp2_with fail
      refine kept_load_intro _ _ (.agg C2) (by rfl) (HS2.out.rt.whole _ Tryd.underlying36 rfl (by rw [infoR, n2])) ?_
      go_wp2_with fail
      refine (HALL.out w2 HS2.out.bl).mono ?_
      rintro e w3 ⟨rfl, b3⟩
      have HS3 := hide (HS2.out.later b3)
      clear HS2 b3
      cases al with
      | false =>
        have HV : Hid ((!tb) = true) := by show _ = _; rw [HT.out]; rfl
        go_wp2_with fail
        go_meet
        case rel => exact ⟨by rw [HV.out], HS3⟩
      | true =>
        have HV : Hid ((!tb) = sb) := by show _ = _; rw [HT.out]; simp
        go_wp2_with fail
        refine kept_load_intro _ _ (.agg C2) (by rfl) (HS3.out.rt.whole _ Tryd.underlying36 rfl (by rw [infoR, n2])) ?_
        go_wp2_with fail
        refine (HSTALE.out w3).mono ?_
        rintro e w4 ⟨rfl, b4⟩
        have HS4 := hide (HS3.out.later b4)
        clear HS3 b4
        go_wp2_with fail
        go_meet
        case rel => exact ⟨by rw [HV.out], HS4⟩
  case rest =>
    obtain ⟨rfl, HS5⟩ := hcut
    clear HS HBACK HALL HSTALE HT
    cases tb with
    | false =>
      have HV : Hid (ex = none) := by show _ = _; rw [HE.out]; rfl
      clear HE
      go_wp2_with fail
      refine kept_build0_intro _ (run_build0A _) ?_
      go_wp2_with fail
      refine kept_store_intro _ _ _ _ (by rfl) (by rfl) (run_storeAb HS5.out.res rfl AC.zero) ?_
      have HY9 := HS5.out.res.put (C := zA) rfl
      have HB9 := hide (below_puts HS5.out.bl (X := w.heap.size + 3) (by omega) zA.toList)
      clear HS5
      generalize World.setCells _ (w.heap.size + 3) 0 zA.toList = w9 at *
      go_wp2_with fail
      refine bodyPost_ret (v := .tuple #[.agg zA, .bool false]) (resA_two Tryd.results10 _ w9 (w.heap.size + 3) _ _ rfl rfl HY9 AC.zero) rfl ⟨by rw [HV.out]; exact rfl, HB9.out⟩
    | true =>
      have HV : Hid (ex = if goodA (toldA c pe r.att) then some (toldA c pe r.att) else none) := by show _ = _; rw [HE.out, Bool.true_and]
      clear HE
      go_wp2_with fail
      refine kept_load_intro _ _ (.agg C2) (by rfl) (HS5.out.rt.whole _ Tryd.underlying36 rfl (by rw [infoR, n2])) ?_
      go_wp2_with fail
      refine (HOUR.out wc HS5.out.bl).mono ?_
      rintro e w6 ⟨pa9, pc9, ca9, cc9, ra9, rc9, rfl, ho6, b6⟩
      have HO6 := hide (ho6.ours.base (B' := w.heap.size + 4) HS5.out.sz)
      have HS6 := hide (HS5.out.later b6)
      clear HS5 ho6 b6 HOUR
      go_wp2_with fail
      refine kept_alloc_intro _ (run_allocA _) ?_
      go_wp2_with fail
      refine kept_store_intro _ _ _ (.agg (atC pa9 pc9 ca9 cc9 ra9 rc9 (ourA r.att))) (by rfl) (by rfl) (run_storeAb (Ab.new w6 zA) rfl (AC.of _ _ _ _ _ _ _)) ?_
      have hb7 : Below w6.heap.size w6 ((w6.alloc (.cells zA 34)).setCells w6.heap.size 0 (atC pa9 pc9 ca9 cc9 ra9 rc9 (ourA r.att)).toList) := below_puts ((Below.refl _ _).alloc (Nat.le_refl _) _) (Nat.le_refl _) _
      have HX7 : Hid (Ab ((w6.alloc (.cells zA 34)).setCells w6.heap.size 0 (atC pa9 pc9 ca9 cc9 ra9 rc9 (ourA r.att)).toList) w6.heap.size (atC pa9 pc9 ca9 cc9 ra9 rc9 (ourA r.att))) := (Ab.new w6 zA).put rfl
      have HO7 := hide (HO6.out.later hb7)
      have HS7 := hide (HS6.out.later hb7)
      have hX4 : w.heap.size + 4 ≤ w6.heap.size := HS6.out.sz
      clear hb7 HO6 HS6
      generalize (w6.alloc (.cells zA 34)).setCells w6.heap.size 0 (atC pa9 pc9 ca9 cc9 ra9 rc9 (ourA r.att)).toList = w7 at *
      generalize w6.heap.size = X at *
      have p1 := HS7.out.pf.cell 1 g2
      obtain ⟨q, hq⟩ : ∃ q, q = (pe.asn == c.asn) := ⟨_, rfl⟩
      rw [← hq] at HIS
      have HQ := hide hq
      clear hq
      go_wp2_with fail
      refine kept_load_intro _ _ (.agg C0) (by rfl) (HS7.out.cf.whole _ Tryd.underlying24 rfl (by rw [infoC, n0])) ?_
      go_wp2_with fail
      refine (HIS.out w7).mono ?_
      rintro e w8 ⟨rfl, b8⟩
      have HX8 := hide (HX7.out.below b8)
      have HO8 := hide (HO7.out.later b8)
      have HS8 := hide (HS7.out.later b8)
      clear HX7 HO7 HS7 b8 p1 HIS
      have HTA : Hid (toldA c pe r.att = if pe.asn = c.asn then ourA r.att else othA c r.att) := rfl
      generalize toldA c pe r.att = ta at HTA HSZ HV
      go_upto_if 36 with fail
      go_cut [36] (fun v wq => Hid (ExQ w wq C0 C1 C2 zA) ∧ Hid (∃ pa pc ca cc ra rc, Ab wq X (atC pa pc ca cc ra rc ta) ∧ OwnAt wq (w.heap.size + 4) pa pc ca cc ra rc ta))
      case first =>
        cases q with
        | true =>
          have hs : pe.asn = c.asn := by simpa using HQ.out.symm
          have HT2 : Hid (ta = ourA r.att) := by show _ = _; rw [HTA.out, if_pos hs]
          clear HTA hs
          go_wp2_with fail
          go_meet
          case rel => exact ⟨HS8, pa9, pc9, ca9, cc9, ra9, rc9, by rw [HT2.out]; exact HX8.out, by rw [HT2.out]; exact HO8.out⟩
        | false =>
          have hs : ¬ pe.asn = c.asn := by simpa using HQ.out.symm
          have HT2 : Hid (ta = othA c r.att) := by show _ = _; rw [HTA.out, if_neg hs]
          clear HTA hs
          go_wp2_with fail
          refine kept_load_intro _ _ (.agg C0) (by rfl) (HS8.out.cf.whole _ Tryd.underlying24 rfl (by rw [infoC, n0])) ?_
          go_wp2_with fail
          refine kept_load_intro _ _ (.agg C2) (by rfl) (HS8.out.rt.whole _ Tryd.underlying36 rfl (by rw [infoR, n2])) ?_
          go_wp2_with fail
          refine (HOTH.out w8 HS8.out.bl).mono ?_
          rintro e w9 ⟨pb9, pd9, cb9, cd9, rb9, rd9, rfl, ho9, b9⟩
          have HX9 := hide (HX8.out.below b9)
          have HS9 := hide (HS8.out.later b9)
          have HO9 := hide ho9
          have hX8 : X < w8.heap.size := HX8.out.lt
          clear b9 ho9 HX8 HS8 HO8
          go_wp2_with fail
          refine kept_store_intro _ _ _ (.agg (atC pb9 pd9 cb9 cd9 rb9 rd9 (othA c r.att))) (by rfl) (by rfl) (run_storeAb HX9.out rfl (AC.of _ _ _ _ _ _ _)) ?_
          have HXa : Hid (Ab (w9.setCells X 0 (atC pb9 pd9 cb9 cd9 rb9 rd9 (othA c r.att)).toList) X (atC pb9 pd9 cb9 cd9 rb9 rd9 (othA c r.att))) := HX9.out.put rfl
          have HOa := hide ((HO9.out.keeps ((Keeps.refl (fun k => k = X) w9).setCells X 0 (atC pb9 pd9 cb9 cd9 rb9 rd9 (othA c r.att)).toList (.inl rfl)) (fun b h1 h2 => by omega)).base (B' := w.heap.size + 4) (by omega))
          have HSa := hide (HS9.out.turn (below_puts (Below.refl (w.heap.size + 4) w9) (X := X) hX4 (atC pb9 pd9 cb9 cd9 rb9 rd9 (othA c r.att)).toList) (Nat.le_refl _))
          generalize w9.setCells X 0 (atC pb9 pd9 cb9 cd9 rb9 rd9 (othA c r.att)).toList = wa at *
          go_wp2_with fail
          go_meet
          case rel => exact ⟨HSa, pb9, pd9, cb9, cd9, rb9, rd9, by rw [HT2.out]; exact HXa.out, by rw [HT2.out]; exact HOa.out⟩
      case rest =>
        obtain ⟨HSb, HXb⟩ := hcut
        obtain ⟨pe9, pf9, ce9, cf9, re9, rf9, hXb, hOb⟩ := HXb.out
        have HX9 := hide hXb
        have HO9 := hide hOb
        have HLT : Hid (sizeA ta ≤ 100000) := by have h1 := HSZ.out; have h2 := HL.out; show _ ≤ _; omega
        have HRD : Hid (AtRd wc pe9 ce9 re9 ta) := by
          refine HO9.out.rd HLT.out ?_ ?_
          · rw [HTA.out]
            split
            · exact HNX.out
            · exact HCN.out
          · rw [HTA.out]
            split
            · exact HRB.out
            · exact HRB.out
        clear hXb hOb HXb HX8 HO8 HS8 HTA HQ HSZ HL
        go_wp2_with fail
        refine kept_load_intro _ _ _ (by rfl) (run_loadAb HX9.out (AC.of _ _ _ _ _ _ _)) ?_
        go_wp2_with fail
        refine (HGOOD.out pe9 pf9 ce9 cf9 re9 rf9 ta _ HSb.out.bl HLT.out HRD.out).mono ?_
        rintro e wd ⟨rfl, bd⟩
        have HSd := hide (HSb.out.later bd)
        have HXd := hide (HX9.out.below bd)
        have HOd := hide (HO9.out.later bd)
        clear HSb HX9 HO9 HRD bd HGOOD
        cases hg : goodA ta with
        | false =>
          have HQ : Hid (ex = none) := by show _ = _; rw [HV.out, hg]; rfl
          clear hg HV
          go_wp2_with fail
          refine kept_build0_intro _ (run_build0A _) ?_
          go_wp2_with fail
          refine kept_store_intro _ _ _ _ (by rfl) (by rfl) (run_storeAb HSd.out.res rfl AC.zero) ?_
          have HY9 := HSd.out.res.put (C := zA) rfl
          have HB9 := hide (below_puts HSd.out.bl (X := w.heap.size + 3) (by omega) zA.toList)
          clear HSd
          generalize World.setCells _ (w.heap.size + 3) 0 zA.toList = w9 at *
          go_wp2_with fail
          refine bodyPost_ret (v := .tuple #[.agg zA, .bool false]) (resA_two Tryd.results10 _ w9 (w.heap.size + 3) _ _ rfl rfl HY9 AC.zero) rfl ⟨by rw [HQ.out]; exact rfl, HB9.out⟩
        | true =>
          have HQ : Hid (ex = some ta) := by show _ = _; rw [HV.out, hg]; rfl
          clear hg HV
          go_wp2_with fail
          refine kept_load_intro _ _ _ (by rfl) (run_loadAb HXd.out (AC.of _ _ _ _ _ _ _)) ?_
          go_wp2_with fail
          refine kept_store_intro _ _ _ _ (by rfl) (by rfl) (run_storeAb HSd.out.res rfl (AC.of _ _ _ _ _ _ _)) ?_
          have HY9 := HSd.out.res.put (C := atC pe9 pf9 ce9 cf9 re9 rf9 ta) rfl
          have HB9 := hide (below_puts HSd.out.bl (X := w.heap.size + 3) (by omega) (atC pe9 pf9 ce9 cf9 re9 rf9 ta).toList)
          have HO9 := hide ((HOd.out.keeps ((Keeps.refl (fun k => k = w.heap.size + 3) wd).setCells (w.heap.size + 3) 0 (atC pe9 pf9 ce9 cf9 re9 rf9 ta).toList (.inl rfl)) (fun b h1 h2 => by omega)).base (B' := w.heap.size) (by omega))
          clear HSd HXd HOd
          generalize World.setCells _ (w.heap.size + 3) 0 (atC pe9 pf9 ce9 cf9 re9 rf9 ta).toList = w9 at *
          go_wp2_with fail
          refine bodyPost_ret (v := .tuple #[.agg (atC pe9 pf9 ce9 cf9 re9 rf9 ta), .bool true]) (resA_two Tryd.results10 _ w9 (w.heap.size + 3) _ _ rfl rfl HY9 (AC.of _ _ _ _ _ _ _)) rfl ⟨by rw [HQ.out]; exact ⟨pe9, pf9, ce9, cf9, re9, rf9, rfl, HO9.out⟩, HB9.out⟩
end
end Go.Proofs.YthigjonagbfbbaaDoor
/- A static route, as it is told (plain). -/
namespace Go.Proofs.YthigjonagbfbbaaDoor
open Go.RowKit
set_option maxRecDepth 100000

def stA (n : Nat) : At := ⟨0, [], n, -1, -1, [], []⟩
def stR2 (A : Nat) (L : Int) (n : Nat) : Rt := ⟨A, L, -1, stA n, 0⟩
theorem stat_same (c : Cfg) (pe : Pcf) (n : Nat) (h : pe.asn = c.asn) : toldA c pe (stA n) = ⟨0, [], n, -1, 100, [], []⟩ := by
  rw [toldA_eq, if_pos h]
  rfl
theorem stat_other (c : Cfg) (pe : Pcf) (n : Nat) (h : ¬ pe.asn = c.asn) : toldA c pe (stA n) = ⟨0, [(false, [c.asn])], c.next, -1, -1, [], []⟩ := by
  rw [toldA_eq, if_neg h]
  rfl
theorem stat_good (c : Cfg) (pe : Pcf) (n : Nat) (h1 : hopB n = true) (h2 : hopB c.next = true) (h3 : 1 ≤ c.asn) (h4 : c.asn ≤ 4294967295) : goodA (toldA c pe (stA n)) = true := by
  by_cases h : pe.asn = c.asn
  · rw [stat_same c pe n h]
    unfold goodA headA
    simp [h1, goodP, rawsUp, sumP]
  · rw [stat_other c pe n h]
    unfold goodA headA
    simp [h2, goodP, rawsUp, sumP, okS, okN]
    omega
theorem stat_export (c : Cfg) (pe : Pcf) (A : Nat) (L : Int) (n : Nat) (al : Bool) (h1 : hopB n = true) (h2 : hopB c.next = true) (h3 : 1 ≤ c.asn) (h4 : c.asn ≤ 4294967295) (h5 : 0 ≤ pe.num) (hal : (applyR pe.out A L).2 = al) :
    exportR c pe false (stR2 A L n) c.asn = if al then some (toldA c pe (stA n)) else none := by
  have ht : tellB c pe false (stR2 A L n) c.asn = al := by
    have e1 : decide ((-1 : Int) = pe.num) = false := decide_eq_false (by omega)
    have e2 : decide ((0 : Int) ≤ -1) = false := by decide
    have e3 : decide ((0 : Int) = 2) = false := by decide
    show ((applyR pe.out A L).2 && !(decide ((-1 : Int) = pe.num)) && !(decide ((0 : Int) ≤ -1) && decide (c.asn = c.asn) && decide (pe.asn = c.asn)) && !(decide ((0 : Int) = 2) && !false)) = al
    rw [hal, e1, e2, e3]
    simp
  unfold exportR
  rw [ht]
  show (if al && goodA (toldA c pe (stA n)) then some (toldA c pe (stA n)) else none) = _
  rw [stat_good c pe n h1 h2 h3 h4, Bool.and_true]
end Go.Proofs.YthigjonagbfbbaaDoor
