/- ExportStatic's walk. -/
import Derived.Test.YtclihbfjendllaaDoorKAx
import Derived.Test.YtclihbfjendllaaDoorKBc
import Derived.Test.YtclihbfjendllaaDoorAtGd
import Derived.Test.YtclihbfjendllaaDoorKAp
import Derived.Test.YtclihbfjendllaaDoorKAh
namespace Go.Proofs.YtclihbfjendllaaDoor
open Go.RowKit
set_option maxRecDepth 100000

section
variable {P : Program} {a : Act} {w w' : World} {K : Act → World → Prop} {Q : Exit → Act → World → Prop} {dst : Option Tmp} {ty : TypeId} {pos : String} {after : Array Edge} {gd : Option (Nat × Bool)}
theorem keptX_load (x : Operand) : Oper.wp P { dst := dst, op := .load 29 x, type := ty, pos := pos, after := after, guard := gd } a w K Q = Kept P { dst := dst, op := .load 29 x, type := ty, pos := pos, after := after, guard := gd } a w K Q := rfl
theorem keptX_box (x : Operand) : Oper.wp P { dst := dst, op := .box 29 x, type := ty, pos := pos, after := after, guard := gd } a w K Q = Kept P { dst := dst, op := .box 29 x, type := ty, pos := pos, after := after, guard := gd } a w K Q := rfl
end
theorem infoX : (Tryd.prog.info? 29).map (·.size) = some 2 := by kernel_rfl
def pfxC (A : Nat) (L : Int) : Array Value := #[.int .u32 (A : Int), .int .i64 L]
theorem run_buildSa (n : Nat) (w : World) : (Instr.build 34 #[(2, .int .u32 (n : Int)), (3, .int .i64 (-1)), (4, .int .i64 (-1))]).run Tryd.prog w = .ok (.agg (atC none 0 none 0 none 0 (stA n))) w := by kernel_rfl
theorem run_buildSr (A : Nat) (L : Int) (n : Nat) (w : World) : (Instr.build 36 #[(0, .agg (pfxC A L)), (1, .int .i64 (-1)), (2, .agg (atC none 0 none 0 none 0 (stA n)))]).run Tryd.prog w = .ok (.agg (rtC none 0 none 0 none 0 (stR2 A L n))) w := by kernel_rfl
/-- Where ExportStatic begins: its boxes. -/
structure StQ (w w1 : World) (C0 C1 C2 : Array Value) : Prop where
  cf : Bk 24 w1 w.heap.size C0
  pf : Bk 27 w1 (w.heap.size + 1) C1
  px : Bk 29 w1 (w.heap.size + 2) C2
  sz : w.heap.size + 3 ≤ w1.heap.size
  bl : Below w.heap.size w w1
theorem StQ.later {w w1 w2 : World} {C0 C1 C2 : Array Value} (h : StQ w w1 C0 C1 C2) (hb : Below w1.heap.size w1 w2) : StQ w w2 C0 C1 C2 :=
  ⟨h.cf.below hb h.cf.lt, h.pf.below hb h.pf.lt, h.px.below hb h.px.lt, by have := hb.size; have := h.sz; omega, h.bl.trans (hb.mono h.bl.size)⟩
theorem stq_start (w : World) (C0 C1 C2 : Array Value) : StQ w (((w.alloc (.cells C0 24)).alloc (.cells C1 27)).alloc (.cells C2 29)) C0 C1 C2 := by
  have s1 : (w.alloc (.cells C0 24)).heap.size = w.heap.size + 1 := by simp
  have s2 : ((w.alloc (.cells C0 24)).alloc (.cells C1 27)).heap.size = w.heap.size + 2 := by simp
  refine ⟨((Bk.new _ w C0).alloc _).alloc _, ?_, ?_, by simp, (((Below.refl _ _).alloc (Nat.le_refl _) _).alloc (by omega) _).alloc (by omega) _⟩
  · have := (Bk.new 27 (w.alloc (.cells C0 24)) C1).alloc (.cells C2 29)
    rwa [s1] at this
  · have := Bk.new 29 ((w.alloc (.cells C0 24)).alloc (.cells C1 27)) C2
    rwa [s2] at this
theorem one_path (w : World) (z : Int) : PthRd ((w.alloc (.cells #[.int .i64 z] 3)).alloc (.cells #[.bool false, .slice (some ⟨w.heap.size, 0, none⟩) 1 1] 69)) (some ⟨w.heap.size + 1, 0, none⟩) [(false, [z])] := by
  have hs : (w.alloc (.cells #[.int .i64 z] 3)).heap.size = w.heap.size + 1 := by simp
  have b1 := (Bk.new 3 w #[.int .i64 z]).alloc (.cells #[.bool false, .slice (some ⟨w.heap.size, 0, none⟩) 1 1] 69)
  have b2 := Bk.new 69 (w.alloc (.cells #[.int .i64 z] 3)) #[.bool false, .slice (some ⟨w.heap.size, 0, none⟩) 1 1]
  rw [hs] at b2
  refine ⟨fun _ => ⟨w.heap.size + 1, 0, rfl, fun i s hi => ?_⟩, by show 1 ≤ maxLen; unfold maxLen; omega, fun s hs => ?_⟩
  · cases i with
    | succ i => simp at hi
    | zero =>
      have e : s = (false, [z]) := by simpa using hi.symm
      subst e
      refine ⟨b2.cell 0 rfl, some ⟨w.heap.size, 0, none⟩, 1, b2.cell 1 rfl, fun _ => ⟨w.heap.size, 0, rfl, fun j x hj => ?_⟩⟩
      cases j with
      | succ j => simp at hj
      | zero =>
        have e : x = z := by simpa using hj.symm
        subst e
        exact b1.cell 0 rfl
  · rw [List.mem_singleton] at hs
    subst hs
    show 1 ≤ maxLen
    unfold maxLen
    omega
section
attribute [local go_sem ↓] keptC_load keptC_box keptP_load keptP_box keptX_box keptX_load keptR_build keptA_load keptA_store keptA_alloc keptA_build
set_option maxHeartbeats 6400000 in
theorem exportStatic_walk (c : Cfg) (pe : Pcf) (ia : Option Addr) (ic : Nat) (oa : Option Addr) (oc : Nat) (A : Nat) (L : Int) (n : Nat) (w : World) (hS : Said w) (hr : RulesIn w oa pe.out) (hA : A < 4294967296) (hn : n < 4294967296) (hcn : c.next < 4294967296) :
    Calls Tryd.prog 7 #[.agg (cfgC c), .agg (pcfC ia ic oa oc pe), pfx A L, .int .u32 (n : Int)] w fun e w' => e = .returned (.bool true) ∧ Below w.heap.size w w' := by
  have g0 : (cfgC c)[0]? = some (.int .i64 c.asn) := rfl
  have g1 : (cfgC c)[2]? = some (.int .u32 (c.next : Int)) := rfl
  have f0 : (pcfC ia ic oa oc pe)[0]? = some (.int .i64 pe.num) := rfl
  have f1 : (pcfC ia ic oa oc pe)[1]? = some (.int .i64 pe.asn) := rfl
  have f3 : (pcfC ia ic oa oc pe)[3]? = some (.slice oa pe.out.length oc) := rfl
  have n0 : (cfgC c).size = 8 := rfl
  have n1 : (pcfC ia ic oa oc pe).size = 4 := rfl
  have n2 : (pfxC A L).size = 2 := rfl
  have HSD := hide hS
  have HRU := hide hr
  have HAL := hide hA
  have HNL := hide hn
  have HCN := hide hcn
  have HANS := hide (fun (w1 : World) (hb : Below w.heap.size w w1) => answers_any w1 (hS.below hb))
  have HHOP := hide (fun (m : Nat) (w : World) => hop_any m w)
  have HEX := hide (fun (w1 : World) (ho : pe.out.length ≤ 1000) (hb : Below w.heap.size w w1) => pexport_any c pe ia ic oa oc false none 0 none 0 none 0 (stR2 A L n) c.asn w1 (hS.below hb) (by show 0 ≤ 50000; omega) (atrd_nil w1 0 n (-1) (-1) hn) ho (hr.below hb (Nat.le_refl _)) hA hcn)
  have HAP := hide (fun (w1 : World) (ho : pe.out.length ≤ 1000) (hb : Below w.heap.size w w1) => rapply_any oa pe.out.length oc A L pe.out w1 ho rfl (hr.below hb (Nat.le_refl _)) hA)
  have HST := hide (stat_export c pe A L n)
  have HSM := hide (stat_same c pe n)
  have HOT := hide (stat_other c pe n)
  have e9 : pfx A L = .agg (pfxC A L) := rfl
  rw [e9] at HAP ⊢
  have HBA := hide (run_buildSa n)
  have HBR := hide (run_buildSr A L n)
  clear hS hr hA hn hcn e9
  obtain ⟨q, hq⟩ : ∃ q : Nat, q = pe.out.length := ⟨_, rfl⟩
  rw [← hq] at f3 HEX HAP
  clear hq
  generalize (applyR pe.out A L).1 = ap at *
  generalize hal : (applyR pe.out A L).2 = al at *
  clear hal
  generalize rtC none 0 none 0 none 0 (stR2 A L n) = CR at *
  generalize atC none 0 none 0 none 0 (stA n) = CA at *
  generalize hex : exportR c pe false (stR2 A L n) c.asn = ex at *
  clear hex
  generalize toldA c pe (stA n) = ta at *
  generalize cfgC c = C0 at *
  generalize pcfC ia ic oa oc pe = C1 at *
  generalize pfxC A L = C2 at *
  have HS := hide (stq_start w C0 C1 C2)
  obtain ⟨bad, hbad⟩ : ∃ b, b = (decide (50 < (q : Int)) || !hopB n || !hopB c.next || decide (c.asn < 1) || decide (4294967295 < c.asn) || decide (pe.num < 0)) := ⟨_, rfl⟩
  have HV := hide hbad
  clear hbad
  go_enter Tryd.func7, Tryd.ntmps7
  go_wp2_with fail
  refine kept_box_intro _ _ _ (by rfl) (run_boxS _ C0 w) ?_
  go_wp2_with fail
  refine kept_box_intro _ _ _ (by rfl) (run_boxS _ C1 _) ?_
  go_wp2_with fail
  refine kept_box_intro _ _ _ (by rfl) (run_boxS _ C2 _) ?_
  simp only [World.size_alloc]
  generalize World.alloc (World.alloc (World.alloc w _) _) _ = w1 at *
  have c0 := HS.out.cf.cell 0 g0
  have c1 := HS.out.cf.cell 2 g1
  have p0 := HS.out.pf.cell 0 f0
  have p3 := HS.out.pf.cell 3 f3
  go_upto_region 1 with fail
  go_cut [42] (fun v wq => v = .bool bad ∧ wq = w1)
  case first =>
    cases h1 : decide (50 < (q : Int)) with
    | true =>
      have HE : Hid (bad = true) := by show _ = _; rw [HV.out, h1]; rfl
      go_wp2_with fail
      go_meet
      case rel => exact ⟨by rw [HE.out], rfl⟩
    | false =>
      go_wp2_with fail
      refine (HHOP.out n w1).mono ?_
      rintro e w2 ⟨rfl, rfl⟩
      cases h2 : hopB n with
      | false =>
        have HE : Hid (bad = true) := by show _ = _; rw [HV.out, h1, h2]; rfl
        go_wp2_with fail
        go_meet
        case rel => exact ⟨by rw [HE.out], rfl⟩
      | true =>
        go_wp2_with fail
        refine (HHOP.out c.next _).mono ?_
        rintro e w2 ⟨rfl, rfl⟩
        cases h3 : hopB c.next with
        | false =>
          have HE : Hid (bad = true) := by show _ = _; rw [HV.out, h1, h2, h3]; rfl
          go_wp2_with fail
          go_meet
          case rel => exact ⟨by rw [HE.out], rfl⟩
        | true =>
          cases h4 : decide (c.asn < 1) with
          | true =>
            have HE : Hid (bad = true) := by show _ = _; rw [HV.out, h1, h2, h3, h4]; rfl
            go_wp2_with fail
            go_meet
            case rel => exact ⟨by rw [HE.out], rfl⟩
          | false =>
            cases h5 : decide (4294967295 < c.asn) with
            | true =>
              have HE : Hid (bad = true) := by show _ = _; rw [HV.out, h1, h2, h3, h4, h5]; rfl
              go_wp2_with fail
              go_meet
              case rel => exact ⟨by rw [HE.out], rfl⟩
            | false =>
              have HE : Hid (bad = decide (pe.num < 0)) := by show _ = _; rw [HV.out, h1, h2, h3, h4, h5]; simp
              go_wp2_with fail
              go_meet
              case rel => exact ⟨by rw [HE.out], rfl⟩
  case rest =>
    obtain ⟨rfl, rfl⟩ := hcut
    clear c0 c1 p0 p3 HHOP
    cases bad with
    | true =>
      clear HV
      go_wp2_with fail
      refine (HANS.out _ HS.out.bl).mono ?_
      rintro e w2 ⟨rfl, b2⟩
      have HS2 := hide (HS.out.later b2)
      go_wp2_with fail
      go_ret
      exact ⟨rfl, HS2.out.bl⟩
    | false =>
      have HK : Hid (hopB n = true ∧ hopB c.next = true ∧ 1 ≤ c.asn ∧ c.asn ≤ 4294967295 ∧ 0 ≤ pe.num ∧ q ≤ 50) := by
        have h := HV.out.symm
        simp only [Bool.or_eq_false_iff, decide_eq_false_iff_not, Bool.not_eq_false'] at h
        exact ⟨h.1.1.1.1.2, h.1.1.1.2, by omega, by omega, by omega, by omega⟩
      have hq50 : q ≤ 1000 := by have := HK.out.2.2.2.2.2; omega
      have HXE : Hid (ex = if al then some ta else none) := HST.out al HK.out.1 HK.out.2.1 HK.out.2.2.1 HK.out.2.2.2.1 HK.out.2.2.2.2.1 rfl
      clear HV HST
      have c0 := HS.out.cf.cell 0 g0
      go_wp2_with fail
      refine kept_load_intro _ _ (.agg C0) (by rfl) (HS.out.cf.whole _ Tryd.underlying24 rfl (by rw [infoC, n0])) ?_
      go_wp2_with fail
      refine kept_load_intro _ _ (.agg C1) (by rfl) (HS.out.pf.whole _ Tryd.underlying27 rfl (by rw [infoPc, n1])) ?_
      go_wp2_with fail
      refine kept_load_intro _ _ (.agg C2) (by rfl) (HS.out.px.whole _ Tryd.underlying29 rfl (by rw [infoX, n2])) ?_
      go_wp2_with fail
      refine kept_build3_intro _ _ _ _ _ _ _ _ _ (.agg CA) (by rfl) (by rfl) (by rfl) (HBA.out _) ?_
      go_wp2_with fail
      refine kept_build3_intro _ _ _ _ _ _ _ _ _ (.agg CR) (by rfl) (by rfl) (by rfl) (HBR.out _) ?_
      go_wp2_with fail
      refine (HEX.out _ hq50 HS.out.bl).mono ?_
      rintro e w2 ⟨he, b2⟩
      have HS2 := hide (HS.out.later b2)
      have hsz2 := HS2.out.sz
      clear HS b2 c0 HEX
      cases al with
      | false =>
        obtain rfl : e = .returned (.tuple #[.agg zA, .bool false]) := by have h := he; rw [HXE.out] at h; exact h
        clear he HXE
        go_wp2_with fail
        refine kept_alloc_intro _ (run_allocA _) ?_
        go_wp2_with fail
        refine kept_store_intro _ _ _ (.agg zA) (by rfl) (by rfl) (run_storeAb (Ab.new w2 zA) rfl AC.zero) ?_
        have hb3 : Below w2.heap.size w2 ((w2.alloc (.cells zA 34)).setCells w2.heap.size 0 (zA).toList) := below_puts ((Below.refl _ _).alloc (Nat.le_refl _) _) (Nat.le_refl _) _
        have HX3 : Hid (Ab ((w2.alloc (.cells zA 34)).setCells w2.heap.size 0 (zA).toList) w2.heap.size (zA)) := (Ab.new w2 zA).put rfl
        have HS3 := hide (HS2.out.later hb3)
        clear hb3 HS2
        generalize (w2.alloc (.cells zA 34)).setCells w2.heap.size 0 (zA).toList = w3 at *
        generalize w2.heap.size = X at *
        have p3 := HS3.out.pf.cell 3 f3
        go_wp2_with fail
        refine kept_load_intro _ _ (.agg C2) (by rfl) (HS3.out.px.whole _ Tryd.underlying29 rfl (by rw [infoX, n2])) ?_
        go_wp2_with fail
        refine (HAP.out w3 hq50 HS3.out.bl).mono ?_
        rintro e w4 ⟨rfl, b4⟩
        have HS4 := hide (HS3.out.later b4)
        have HX4 := hide (HX3.out.below b4)
        clear HS3 HX3 p3 b4
        go_wp2_with fail
        refine (HANS.out w4 HS4.out.bl).mono ?_
        rintro e w5 ⟨rfl, b5⟩
        have HS5 := hide (HS4.out.later b5)
        go_wp2_with fail
        go_ret
        exact ⟨rfl, HS5.out.bl⟩
      | true =>
        obtain ⟨pa, pc, ca, cc, ra, rc, rfl, ho2⟩ : ∃ pa pc ca cc ra rc, e = .returned (.tuple #[.agg (atC pa pc ca cc ra rc ta), .bool true]) ∧ OwnAt w2 wc.heap.size pa pc ca cc ra rc ta := by have h := he; rw [HXE.out] at h; exact h
        have HO2 := hide ho2
        clear he HXE ho2
        go_wp2_with fail
        refine kept_alloc_intro _ (run_allocA _) ?_
        go_wp2_with fail
        refine kept_store_intro _ _ _ (.agg (atC pa pc ca cc ra rc ta)) (by rfl) (by rfl) (run_storeAb (Ab.new w2 zA) rfl (AC.of _ _ _ _ _ _ _)) ?_
        have hb3 : Below w2.heap.size w2 ((w2.alloc (.cells zA 34)).setCells w2.heap.size 0 (atC pa pc ca cc ra rc ta).toList) := below_puts ((Below.refl _ _).alloc (Nat.le_refl _) _) (Nat.le_refl _) _
        have HX3 : Hid (Ab ((w2.alloc (.cells zA 34)).setCells w2.heap.size 0 (atC pa pc ca cc ra rc ta).toList) w2.heap.size (atC pa pc ca cc ra rc ta)) := (Ab.new w2 zA).put rfl
        have HS3 := hide (HS2.out.later hb3)
        have HO3 := hide (HO2.out.later hb3)
        clear HO2
        clear hb3 HS2
        generalize (w2.alloc (.cells zA 34)).setCells w2.heap.size 0 (atC pa pc ca cc ra rc ta).toList = w3 at *
        generalize w2.heap.size = X at *
        have p3 := HS3.out.pf.cell 3 f3
        go_wp2_with fail
        refine kept_load_intro _ _ (.agg C2) (by rfl) (HS3.out.px.whole _ Tryd.underlying29 rfl (by rw [infoX, n2])) ?_
        go_wp2_with fail
        refine (HAP.out w3 hq50 HS3.out.bl).mono ?_
        rintro e w4 ⟨rfl, b4⟩
        have HS4 := hide (HS3.out.later b4)
        have HX4 := hide (HX3.out.below b4)
        have HO4 := hide (HO3.out.later b4)
        clear HO3
        clear HS3 HX3 p3 b4
        have c0 := HS4.out.cf.cell 0 g0
        have p1 := HS4.out.pf.cell 1 f1
        cases hs : (pe.asn == c.asn) with
        | true =>
          have HT : Hid (ta = ⟨0, [], n, -1, 100, [], []⟩) := HSM.out (by simpa using hs)
          go_wp2_with fail
          refine (HANS.out w4 HS4.out.bl).mono ?_
          rintro e w5 ⟨rfl, b5⟩
          have HS5 := hide (HS4.out.later b5)
          have HX5 : Hid (Ab w5 X (atC pa pc ca cc ra rc ⟨0, [], n, -1, 100, [], []⟩)) := by show Ab _ _ _; rw [← HT.out]; exact HX4.out.below b5
          have k1 : w5.cell? ⟨X, 1, none⟩ = some (.slice pa 0 pc) := HX5.out.cell 1 rfl
          have k2 : w5.cell? ⟨X, 2, none⟩ = some (.int .u32 (n : Int)) := HX5.out.cell 2 rfl
          have k4 : w5.cell? ⟨X, 4, none⟩ = some (.int .i64 100) := HX5.out.cell 4 rfl
          clear c0 p1 HS4 HX4 b5
          go_wp2_with fail
          go_ret
          exact ⟨rfl, HS5.out.bl⟩
        | false =>
          have HT : Hid (ta = ⟨0, [(false, [c.asn])], c.next, -1, -1, [], []⟩) := HOT.out (by simpa using hs)
          go_wp2_with fail
          refine (HANS.out w4 HS4.out.bl).mono ?_
          rintro e w5 ⟨rfl, b5⟩
          have HS5 := hide (HS4.out.later b5)
          have HX5 : Hid (Ab w5 X (atC pa pc ca cc ra rc ⟨0, [(false, [c.asn])], c.next, -1, -1, [], []⟩)) := by show Ab _ _ _; rw [← HT.out]; exact HX4.out.below b5
          have HO5 : Hid (AtRd w5 pa ca ra ⟨0, [(false, [c.asn])], c.next, -1, -1, [], []⟩) := by
            have h := HO4.out.later b5
            rw [HT.out] at h
            exact h.rd (by simp [sizeA, sumP, sumR]) HCN.out (fun r hr => by cases hr)
          have k1 : w5.cell? ⟨X, 1, none⟩ = some (.slice pa 1 pc) := HX5.out.cell 1 rfl
          have k2 : w5.cell? ⟨X, 2, none⟩ = some (.int .u32 (c.next : Int)) := HX5.out.cell 2 rfl
          have k4 : w5.cell? ⟨X, 4, none⟩ = some (.int .i64 (-1)) := HX5.out.cell 4 rfl
          have c0' := HS5.out.cf.cell 0 g0
          have c1' := HS5.out.cf.cell 2 g1
          clear c0 p1 HS4 HX4 HO4 b5
          go_wp2_with fail
          have hb6 : Below w5.heap.size w5 ((w5.alloc (.cells #[.int .i64 c.asn] 3)).alloc (.cells #[.bool false, .slice (some ⟨w5.heap.size, 0, none⟩) 1 1] 69)) := ((Below.refl _ _).alloc (Nat.le_refl _) _).alloc (by simp) _
          have HSP := hide (samepath_any pa (some ⟨w5.heap.size + 1, 0, none⟩) pc 1 [(false, [c.asn])] [(false, [c.asn])] ((w5.alloc (.cells #[.int .i64 c.asn] 3)).alloc (.cells #[.bool false, .slice (some ⟨w5.heap.size, 0, none⟩) 1 1] 69)) (by simp [sumP]) (by simp [sumP]) (HO5.out.path.below hb6) (one_path w5 c.asn))
          refine HSP.out.mono ?_
          rintro e w6 ⟨rfl, m, rfl⟩
          have HE : Hid (eqP [(false, [c.asn])] [(false, [c.asn])] = true) := decide_eq_true rfl
          have HB6 : Hid (Below w.heap.size w ((w5.alloc (.cells #[.int .i64 c.asn] 3)).alloc (.cells #[.bool false, .slice (some ⟨w5.heap.size, 0, none⟩) 1 1] 69))) := HS5.out.bl.trans (hb6.mono HS5.out.bl.size)
          clear hb6 HSP
          go_wp2_with fail
          go_ret
          exact ⟨by first | exact congrArg (fun b => Ending.returned (Value.bool b)) HE.out | (rw [HE.out]; rfl), below_drewN HB6.out m⟩
end
end Go.Proofs.YtclihbfjendllaaDoor
