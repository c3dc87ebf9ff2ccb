/- ExportTells' walk. -/
import Derived.Test.YtclihbfjendllaaDoorKBc
import Derived.Test.YtclihbfjendllaaDoorExW
import Derived.Test.YtclihbfjendllaaDoorExSl
import Derived.Test.YtclihbfjendllaaDoorRtBg
import Derived.Test.YtclihbfjendllaaDoorAtSy
namespace Go.Proofs.YtclihbfjendllaaDoor
open Go.RowKit
set_option maxRecDepth 100000

/-- Where ExportTells begins: its boxes. -/
structure TeQ (w w1 : World) (C0 C1 C2 : Array Value) : Prop where
  cf : Bk 24 w1 w.heap.size C0
  pf : Bk 27 w1 (w.heap.size + 1) C1
  rt : Bk 36 w1 (w.heap.size + 2) C2
  sz : w.heap.size + 3 ≤ w1.heap.size
  bl : Below w.heap.size w w1
theorem TeQ.later {w w1 w2 : World} {C0 C1 C2 : Array Value} (h : TeQ w w1 C0 C1 C2) (hb : Below w1.heap.size w1 w2) : TeQ w w2 C0 C1 C2 :=
  ⟨h.cf.below hb h.cf.lt, h.pf.below hb h.pf.lt, h.rt.below hb h.rt.lt, by have := hb.size; have := h.sz; omega, h.bl.trans (hb.mono h.bl.size)⟩
theorem teq_start (w : World) (C0 C1 C2 : Array Value) : TeQ w (((w.alloc (.cells C0 24)).alloc (.cells C1 27)).alloc (.cells C2 36)) C0 C1 C2 := by
  have s1 : (w.alloc (.cells C0 24)).heap.size = w.heap.size + 1 := by simp
  have s2 : ((w.alloc (.cells C0 24)).alloc (.cells C1 27)).heap.size = w.heap.size + 2 := by simp
  refine ⟨((Bk.new _ w C0).alloc _).alloc _, ?_, ?_, by simp, (((Below.refl _ _).alloc (Nat.le_refl _) _).alloc (by omega) _).alloc (by omega) _⟩
  · have := (Bk.new 27 (w.alloc (.cells C0 24)) C1).alloc (.cells C2 36)
    rwa [s1] at this
  · have := Bk.new 36 ((w.alloc (.cells C0 24)).alloc (.cells C1 27)) C2
    rwa [s2] at this
/-- The document's Export. -/
theorem rexport_any (c : Cfg) (pe : Pcf) (ia : Option Addr) (ic : Nat) (oa : Option Addr) (oc : Nat) (ll : Bool) (pa : Option Addr) (pc : Nat) (ca : Option Addr) (cc : Nat) (ra : Option Addr) (rc : Nat) (r : Rt) (src : Int) (w : World) (hl : sizeA r.att ≤ 90000) (hrd : AtRd w pa ca ra r.att) (ho : pe.out.length ≤ 1000) (hr : RulesIn w oa pe.out) (hA : r.A < 4294967296) (hcap : r.att.path.length ≤ pc) (hcn : c.next < 4294967296) :
    Calls Tryd.prog 11 #[.agg (cfgC c), .agg (pcfC ia ic oa oc pe), .bool ll, .agg (rtC pa pc ca cc ra rc r), .int .i64 src] w fun e w' => ExpIs w' e ca cc ra rc (exportR c pe ll r src) ∧ Below w.heap.size w w' := by
  cases ht : tellB c pe ll r src with
  | false =>
    have he : exportR c pe ll r src = none := by unfold exportR; rw [ht]; rfl
    rw [he]
    exact rexport_no c pe ia ic oa oc ll pa pc ca cc ra rc r src w ho hr hA ht
  | true =>
    have he : exportR c pe ll r src = orNone (toldA c pe r.att) := by unfold exportR orNone; rw [ht, Bool.true_and]
    rw [he]
    by_cases hs : pe.asn = c.asn
    · exact rexport_ours c pe ia ic oa oc ll pa pc ca cc ra rc r src w hl hrd ho hr hA ht hs
    · exact rexport_oth c pe ia ic oa oc ll pa pc ca cc ra rc r src w hl hrd ho hr hA ht hcap hcn hs
theorem export_told {c : Cfg} {pe : Pcf} {ll : Bool} {r : Rt} {src : Int} {ta : At} (h : exportR c pe ll r src = some ta) : ta = toldA c pe r.att := by
  unfold exportR at h
  split at h
  · injection h with h
    exact h.symm
  · cases h
theorem told_fine (c : Cfg) (pe : Pcf) (a : At) (hn : a.next < 4294967296) (hc : c.next < 4294967296) (hb : ∀ r ∈ a.raws, ∀ x ∈ r.2.2, x < 256) : (toldA c pe a).next < 4294967296 ∧ ∀ r ∈ (toldA c pe a).raws, ∀ x ∈ r.2.2, x < 256 := by
  rw [toldA_eq]
  split
  · exact ⟨hn, hb⟩
  · exact ⟨hc, hb⟩
section
attribute [local go_sem ↓] keptC_load keptC_box keptP_load keptP_box keptR_box keptR_load keptA_load keptA_store keptA_alloc keptA_build
set_option maxHeartbeats 6400000 in
theorem exportTells_walk (c : Cfg) (pe : Pcf) (ia : Option Addr) (ic : Nat) (oa : Option Addr) (oc : Nat) (pa : Option Addr) (pc : Nat) (ca : Option Addr) (cc : Nat) (ra : Option Addr) (rc : Nat) (r : Rt) (ll : Bool) (src : Int) (w : World) (hS : Said w) (hcn : c.next < 4294967296) (hr : RulesIn w oa pe.out) (hA : r.A < 4294967296) (hg : BigR r) (hrd : AtRd w pa ca ra r.att) (hcap : r.att.path.length ≤ pc) :
    Calls Tryd.prog 3 #[.agg (cfgC c), .agg (pcfC ia ic oa oc pe), .bool ll, .agg (rtC pa pc ca cc ra rc r), .int .i64 src] w fun e w' => e = .returned (.bool true) ∧ Below w.heap.size w w' := by
  have g0 : (cfgC c)[0]? = some (.int .i64 c.asn) := rfl
  have g1 : (cfgC c)[2]? = some (.int .u32 (c.next : Int)) := rfl
  have f0 : (pcfC ia ic oa oc pe)[0]? = some (.int .i64 pe.num) := rfl
  have f1 : (pcfC ia ic oa oc pe)[1]? = some (.int .i64 pe.asn) := rfl
  have f3 : (pcfC ia ic oa oc pe)[3]? = some (.slice oa pe.out.length oc) := rfl
  have r2 : (rtC pa pc ca cc ra rc r)[2]? = some (.int .i64 r.peer) := rfl
  have r4 : (rtC pa pc ca cc ra rc r)[4]? = some (.slice pa r.att.path.length pc) := rfl
  have r5 : (rtC pa pc ca cc ra rc r)[5]? = some (.int .u32 (r.att.next : Int)) := rfl
  have n0 : (cfgC c).size = 8 := rfl
  have n1 : (pcfC ia ic oa oc pe).size = 4 := rfl
  have n2 : (rtC pa pc ca cc ra rc r).size = 11 := rfl
  have HRD := hide hrd
  have HNX := hide hrd.next
  have HRB := hide hrd.raws.bytes
  have HCN := hide hcn
  have HSM := hide (fun (w1 : World) (hb : Below w.heap.size w w1) => smalla_any pa pc ca cc ra rc r.att w1 hg.path hg.segs hg.comms hg.raws hg.datas (hrd.below hb))
  have HSZ := hide (fun (h : smallA r.att = true) => (of_decide_eq_true h : sizeA r.att < 3000))
  have HANS := hide (fun (w1 : World) (hb : Below w.heap.size w w1) => answers_any w1 (hS.below hb))
  have HEX := hide (fun (w1 : World) (ho : pe.out.length ≤ 1000) (hl : sizeA r.att ≤ 50000) (hb : Below w.heap.size w w1) => pexport_any c pe ia ic oa oc ll pa pc ca cc ra rc r src w1 (hS.below hb) hl (hrd.below hb) ho (hr.below hb (Nat.le_refl _)) hA hcn)
  have HATT := hide (fun (w1 : World) (X : Nat) (h : Bk 36 w1 X (rtC pa pc ca cc ra rc r)) => h.att)
  have HRX := hide (fun (w1 : World) (ho : pe.out.length ≤ 1000) (hl : sizeA r.att ≤ 90000) (hb : Below w.heap.size w w1) => rexport_any c pe ia ic oa oc ll pa pc ca cc ra rc r src w1 hl (hrd.below hb) ho (hr.below hb (Nat.le_refl _)) hA hcap hcn)
  have HTO := hide (fun ta (h : exportR c pe ll r src = some ta) => (show sizeA ta ≤ sizeA r.att + 2 ∧ ta.next < 4294967296 ∧ ∀ r ∈ ta.raws, ∀ x ∈ r.2.2, x < 256 by rw [export_told h]; exact ⟨toldA_size c pe r.att, told_fine c pe r.att hrd.next hcn hrd.raws.bytes⟩))
  clear hS hr hA hcn hg hrd hcap
  obtain ⟨q, hq⟩ : ∃ q : Nat, q = pe.out.length := ⟨_, rfl⟩
  rw [← hq] at f3 HEX HRX
  clear hq
  generalize exportR c pe ll r src = ex at *
  generalize cfgC c = C0 at *
  generalize pcfC ia ic oa oc pe = C1 at *
  generalize rtC pa pc ca cc ra rc r = C2 at *
  have HS := hide (teq_start w C0 C1 C2)
  go_enter Tryd.func3, Tryd.ntmps3
  go_wp2_with fail
  refine kept_box_intro _ _ _ (by rfl) (run_boxS _ C0 w) ?_
  go_wp2_with fail
  refine kept_box_intro _ _ _ (by rfl) (run_boxS _ C1 _) ?_
  go_wp2_with fail
  refine kept_box_intro _ _ _ (by rfl) (run_boxS _ C2 _) ?_
  simp only [World.size_alloc]
  generalize World.alloc (World.alloc (World.alloc w _) _) _ = w1 at *
  go_wp2_with fail
  refine kept_load_intro _ _ (.agg (atC pa pc ca cc ra rc r.att)) (by rfl) (HATT.out _ _ HS.out.rt) ?_
  go_wp2_with fail
  refine (HSM.out w1 HS.out.bl).mono ?_
  rintro e w2 ⟨rfl, b2⟩
  have HS2 := hide (HS.out.later b2)
  clear HS b2 HSM
  cases hsm : smallA r.att with
  | false =>
    go_wp2_with fail
    refine (HANS.out _ HS2.out.bl).mono ?_
    rintro e w3 ⟨rfl, b3⟩
    have HS3 := hide (HS2.out.later b3)
    go_wp2_with fail
    go_ret
    exact ⟨rfl, HS3.out.bl⟩
  | true =>
    have hsz := HSZ.out hsm
    have p3 := HS2.out.pf.cell 3 f3
    cases hql : decide (100 < (q : Int)) with
    | true =>
      go_wp2_with fail
      refine (HANS.out _ HS2.out.bl).mono ?_
      rintro e w3 ⟨rfl, b3⟩
      have HS3 := hide (HS2.out.later b3)
      go_wp2_with fail
      go_ret
      exact ⟨rfl, HS3.out.bl⟩
    | false =>
      have hq1 : q ≤ 1000 := by have := of_decide_eq_false hql; omega
      go_wp2_with fail
      refine kept_load_intro _ _ (.agg C0) (by rfl) (HS2.out.cf.whole _ Tryd.underlying24 rfl (by rw [infoC, n0])) ?_
      go_wp2_with fail
      refine kept_load_intro _ _ (.agg C1) (by rfl) (HS2.out.pf.whole _ Tryd.underlying27 rfl (by rw [infoPc, n1])) ?_
      go_wp2_with fail
      refine kept_load_intro _ _ (.agg C2) (by rfl) (HS2.out.rt.whole _ Tryd.underlying36 rfl (by rw [infoR, n2])) ?_
      go_wp2_with fail
      refine (HEX.out _ hq1 (by omega) HS2.out.bl).mono ?_
      rintro e w3 ⟨he, b3⟩
      have HS3 := hide (HS2.out.later b3)
      have hsz3 := HS3.out.sz
      have hsz2 := HS2.out.sz
      clear HS2 b3 p3 HEX HATT
      cases ex with
      | none =>
        obtain rfl : e = .returned (.tuple #[.agg zA, .bool false]) := he
        go_wp2_with fail
        refine kept_alloc_intro _ (run_allocA _) ?_
        go_wp2_with fail
        refine kept_store_intro _ _ _ (.agg (zA)) (by rfl) (by rfl) (run_storeAb (Ab.new w3 zA) rfl AC.zero) ?_
        have hb4 : Below w3.heap.size w3 ((w3.alloc (.cells zA 34)).setCells w3.heap.size 0 (zA).toList) := below_puts ((Below.refl _ _).alloc (Nat.le_refl _) _) (Nat.le_refl _) _
        have HX4 : Hid (Ab ((w3.alloc (.cells zA 34)).setCells w3.heap.size 0 (zA).toList) w3.heap.size (zA)) := (Ab.new w3 zA).put rfl
        have HS4 := hide (HS3.out.later hb4)
        clear hb4 HS3
        generalize (w3.alloc (.cells zA 34)).setCells w3.heap.size 0 (zA).toList = w4 at *
        generalize w3.heap.size = X at *
        go_wp2_with fail
        refine kept_load_intro _ _ (.agg C0) (by rfl) (HS4.out.cf.whole _ Tryd.underlying24 rfl (by rw [infoC, n0])) ?_
        go_wp2_with fail
        refine kept_load_intro _ _ (.agg C1) (by rfl) (HS4.out.pf.whole _ Tryd.underlying27 rfl (by rw [infoPc, n1])) ?_
        go_wp2_with fail
        refine kept_load_intro _ _ (.agg C2) (by rfl) (HS4.out.rt.whole _ Tryd.underlying36 rfl (by rw [infoR, n2])) ?_
        go_wp2_with fail
        refine (HRX.out _ hq1 (by omega) HS4.out.bl).mono ?_
        rintro e w5 ⟨he, b5⟩
        have HS5 := hide (HS4.out.later b5)
        have HX5 := hide (HX4.out.below b5)
        obtain rfl : e = .returned (.tuple #[.agg zA, .bool false]) := he
        clear HS4 HX4 b5 HRX
        go_wp2_with fail
        refine kept_alloc_intro _ (run_allocA _) ?_
        go_wp2_with fail
        refine kept_store_intro _ _ _ (.agg (zA)) (by rfl) (by rfl) (run_storeAb (Ab.new w5 zA) rfl AC.zero) ?_
        have hb6 : Below w5.heap.size w5 ((w5.alloc (.cells zA 34)).setCells w5.heap.size 0 (zA).toList) := below_puts ((Below.refl _ _).alloc (Nat.le_refl _) _) (Nat.le_refl _) _
        have HY6 : Hid (Ab ((w5.alloc (.cells zA 34)).setCells w5.heap.size 0 (zA).toList) w5.heap.size (zA)) := (Ab.new w5 zA).put rfl
        have HS6 := hide (HS5.out.later hb6)
        have HX6 := hide (HX5.out.below hb6)
        clear HX5
        clear hb6 HS5
        generalize (w5.alloc (.cells zA 34)).setCells w5.heap.size 0 (zA).toList = w6 at *
        generalize w5.heap.size = Y at *
        go_wp2_with fail
        refine (HANS.out _ HS6.out.bl).mono ?_
        rintro e w7 ⟨rfl, b7⟩
        have HS7 := hide (HS6.out.later b7)
        have HX7 := hide (HX6.out.below b7)
        have HY7 := hide (HY6.out.below b7)
        clear HS6 HX6 HY6 b7
        go_wp2_with fail
        refine kept_load_intro _ _ (.agg zA) (by rfl) (run_loadAb HX7.out AC.zero) ?_
        go_wp2_with fail
        refine kept_load_intro _ _ (.agg zA) (by rfl) (run_loadAb HY7.out AC.zero) ?_
        go_wp2_with fail
        have HSE := hide (samea_any none none 0 0 none none 0 0 none none 0 0 noAt noAt w7 (by decide) (by decide) (atrd_nil w7 0 0 0 0 (by decide)) (atrd_nil w7 0 0 0 0 (by decide)))
        have hz0 : (.agg zA : Value) = atV none 0 none 0 none 0 noAt := rfl
        rw [hz0]
        refine HSE.out.mono ?_
        rintro e w8 ⟨rfl, b8⟩
        have HE : Hid (eqA noAt noAt = true) := eqA_self _
        have HB8 : Hid (Below w.heap.size w w8) := HS7.out.bl.trans (b8.mono HS7.out.bl.size)
        clear b8 HSE
        generalize eqA noAt noAt = eq at *
        obtain rfl := HE.out
        go_wp2_with fail
        go_ret
        exact ⟨rfl, HB8.out⟩
      | some ta =>
        obtain ⟨pa9, pc9, ca9, cc9, ra9, rc9, rfl, ho3⟩ := he
        have HO3 := hide ho3
        clear ho3
        obtain ⟨t1, t2, t3⟩ := HTO.out ta rfl
        have HT2 := hide t2
        have HT3 := hide t3
        clear t2 t3
        go_wp2_with fail
        refine kept_alloc_intro _ (run_allocA _) ?_
        go_wp2_with fail
        refine kept_store_intro _ _ _ (.agg (atC pa9 pc9 ca9 cc9 ra9 rc9 ta)) (by rfl) (by rfl) (run_storeAb (Ab.new w3 zA) rfl (AC.of _ _ _ _ _ _ _)) ?_
        have hb4 : Below w3.heap.size w3 ((w3.alloc (.cells zA 34)).setCells w3.heap.size 0 (atC pa9 pc9 ca9 cc9 ra9 rc9 ta).toList) := below_puts ((Below.refl _ _).alloc (Nat.le_refl _) _) (Nat.le_refl _) _
        have HX4 : Hid (Ab ((w3.alloc (.cells zA 34)).setCells w3.heap.size 0 (atC pa9 pc9 ca9 cc9 ra9 rc9 ta).toList) w3.heap.size (atC pa9 pc9 ca9 cc9 ra9 rc9 ta)) := (Ab.new w3 zA).put rfl
        have HS4 := hide (HS3.out.later hb4)
        have HO4 := hide (HO3.out.later hb4)
        clear HO3
        clear hb4 HS3
        generalize (w3.alloc (.cells zA 34)).setCells w3.heap.size 0 (atC pa9 pc9 ca9 cc9 ra9 rc9 ta).toList = w4 at *
        generalize w3.heap.size = X at *
        go_wp2_with fail
        refine kept_load_intro _ _ (.agg C0) (by rfl) (HS4.out.cf.whole _ Tryd.underlying24 rfl (by rw [infoC, n0])) ?_
        go_wp2_with fail
        refine kept_load_intro _ _ (.agg C1) (by rfl) (HS4.out.pf.whole _ Tryd.underlying27 rfl (by rw [infoPc, n1])) ?_
        go_wp2_with fail
        refine kept_load_intro _ _ (.agg C2) (by rfl) (HS4.out.rt.whole _ Tryd.underlying36 rfl (by rw [infoR, n2])) ?_
        go_wp2_with fail
        refine (HRX.out _ hq1 (by omega) HS4.out.bl).mono ?_
        rintro e w5 ⟨he, b5⟩
        have HS5 := hide (HS4.out.later b5)
        have HX5 := hide (HX4.out.below b5)
        have HO5 := hide (HO4.out.later b5)
        obtain ⟨pa8, pc8, rfl, hrd8⟩ := he
        have HR5 := hide hrd8
        clear HS4 HX4 HO4 b5 HRX hrd8
        go_wp2_with fail
        refine kept_alloc_intro _ (run_allocA _) ?_
        go_wp2_with fail
        refine kept_store_intro _ _ _ (.agg (atC pa8 pc8 ca cc ra rc ta)) (by rfl) (by rfl) (run_storeAb (Ab.new w5 zA) rfl (AC.of _ _ _ _ _ _ _)) ?_
        have hb6 : Below w5.heap.size w5 ((w5.alloc (.cells zA 34)).setCells w5.heap.size 0 (atC pa8 pc8 ca cc ra rc ta).toList) := below_puts ((Below.refl _ _).alloc (Nat.le_refl _) _) (Nat.le_refl _) _
        have HY6 : Hid (Ab ((w5.alloc (.cells zA 34)).setCells w5.heap.size 0 (atC pa8 pc8 ca cc ra rc ta).toList) w5.heap.size (atC pa8 pc8 ca cc ra rc ta)) := (Ab.new w5 zA).put rfl
        have HS6 := hide (HS5.out.later hb6)
        have HX6 := hide (HX5.out.below hb6)
        have HO6 := hide (HO5.out.later hb6)
        have HR6 := hide (HR5.out.below hb6)
        clear HX5 HO5 HR5
        clear hb6 HS5
        generalize (w5.alloc (.cells zA 34)).setCells w5.heap.size 0 (atC pa8 pc8 ca cc ra rc ta).toList = w6 at *
        generalize w5.heap.size = Y at *
        go_wp2_with fail
        refine (HANS.out _ HS6.out.bl).mono ?_
        rintro e w7 ⟨rfl, b7⟩
        have HS7 := hide (HS6.out.later b7)
        have HX7 := hide (HX6.out.below b7)
        have HY7 := hide (HY6.out.below b7)
        have HO7 := hide (HO6.out.later b7)
        have HR7 := hide (HR6.out.below b7)
        clear HS6 HX6 HY6 HO6 HR6 b7
        go_wp2_with fail
        refine kept_load_intro _ _ (.agg (atC pa9 pc9 ca9 cc9 ra9 rc9 ta)) (by rfl) (run_loadAb HX7.out (AC.of _ _ _ _ _ _ _)) ?_
        go_wp2_with fail
        refine kept_load_intro _ _ (.agg (atC pa8 pc8 ca cc ra rc ta)) (by rfl) (run_loadAb HY7.out (AC.of _ _ _ _ _ _ _)) ?_
        go_wp2_with fail
        have HSE := hide (samea_any pa9 pa8 pc9 pc8 ca9 ca cc9 cc ra9 ra rc9 rc ta ta w7 (by omega) (by omega) (HO7.out.rd (by omega) HT2.out HT3.out) HR7.out)
        refine HSE.out.mono ?_
        rintro e w8 ⟨rfl, b8⟩
        have HE : Hid (eqA ta ta = true) := eqA_self _
        have HB8 : Hid (Below w.heap.size w w8) := HS7.out.bl.trans (b8.mono HS7.out.bl.size)
        clear b8 HSE
        generalize eqA ta ta = eq at *
        obtain rfl := HE.out
        go_wp2_with fail
        go_ret
        exact ⟨rfl, HB8.out⟩
end
end Go.Proofs.YtclihbfjendllaaDoor
