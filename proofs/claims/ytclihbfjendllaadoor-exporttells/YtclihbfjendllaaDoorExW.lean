/- The document's Export for a peer of another AS. -/
import Derived.Test.YtclihbfjendllaaDoorExB
import Derived.Test.YtclihbfjendllaaDoorPpF
import Derived.Test.YtclihbfjendllaaDoorMix
import Derived.Test.YtclihbfjendllaaDoorKAx
namespace Go.Proofs.YtclihbfjendllaaDoor
open Go.RowKit
set_option maxRecDepth 100000

theorem keeps_of {F : Nat → Prop} {w w' : World} (h : Below w.heap.size w w') : Keeps F w w' := Keeps.of_below h _
section
attribute [local go_sem ↓] keptR_load keptR_store keptR_box keptR_alloc keptR_build keptA_load keptA_store keptA_alloc keptA_build
set_option maxHeartbeats 6400000 in
theorem rexport_oth (c : Cfg) (pe : Pcf) (ia : Option Addr) (ic : Nat) (oa : Option Addr) (oc : Nat) (ll : Bool) (pa : Option Addr) (pc : Nat) (ca : Option Addr) (cc : Nat) (ra : Option Addr) (rc : Nat) (r : Rt) (src : Int) (w : World) (hl : sizeA r.att ≤ 90000) (hrd : AtRd w pa ca ra r.att) (ho : pe.out.length ≤ 1000) (hr : RulesIn w oa pe.out) (hA : r.A < 4294967296) (ht : tellB c pe ll r src = true) (hcap : r.att.path.length ≤ pc) (hcn : c.next < 4294967296) (hs : ¬ pe.asn = c.asn) :
    Calls Tryd.prog 11 #[.agg (cfgC c), .agg (pcfC ia ic oa oc pe), .bool ll, rtV pa pc ca cc ra rc r, .int .i64 src] w fun e w' => ExpIs w' e ca cc ra rc (orNone (toldA c pe r.att)) ∧ Below w.heap.size w w' := by
  have HR := hide hr
  have HA := hide hA
  have HO := hide ho
  have HT := hide ht
  have HL := hide hl
  have HSAME := hide hs
  have HCAP := hide hcap
  have HCN := hide hcn
  clear hs hcap hcn
  have HRD := hide hrd
  clear hr hA ho ht hl hrd
  rw [rtV_eq]
  have HS := hide (ex_start w c pe ia ic oa oc (rtC pa pc ca cc ra rc r) 24 27)
  unfold cfgC pcfC at HS ⊢
  go_enter Tryd.func11, Tryd.ntmps11
  go_wp2_with fail
  refine kept_box_intro _ _ _ (by rfl) (run_boxR (rtC pa pc ca cc ra rc r) _) ?_
  go_wp2_with fail
  refine kept_alloc_intro _ (run_allocA _) ?_
  simp only [World.size_alloc]
  generalize World.alloc (World.alloc (World.alloc (World.alloc w _) _) _) _ = w1 at HS ⊢
  have c0 : w1.cell? ⟨w.heap.size, 0, none⟩ = some (.int .i64 c.asn) := HS.out.cf 0 _ rfl
  have p3 : w1.cell? ⟨w.heap.size + 1, 3, none⟩ = some (.slice oa pe.out.length oc) := HS.out.pf 3 _ rfl
  have r0 : w1.cell? ⟨w.heap.size + 2, 0, none⟩ = some (.int .u32 (r.A : Int)) := HS.out.rt.cell 0 rfl
  have r1 : w1.cell? ⟨w.heap.size + 2, 1, none⟩ = some (.int .i64 r.L) := HS.out.rt.cell 1 rfl
  go_wp2_with fail
  refine (rapply_any oa _ oc r.A r.L pe.out w1 HO.out rfl (HR.out.below HS.out.bl (Nat.le_refl _)) HA.out).mono ?_
  rintro e w2 ⟨rfl, hb⟩
  replace HS := hide (HS.out.later hb)
  clear hb c0 p3 r0 r1
  have HT' : Hid (((applyR pe.out r.A r.L).2 && !(decide (r.peer = pe.num)) && !(decide (0 ≤ r.peer) && decide (src = c.asn) && decide (pe.asn = c.asn)) && !(decide (r.stale = 2) && !ll)) = true) := HT
  generalize (applyR pe.out r.A r.L).1 = k1
  generalize (applyR pe.out r.A r.L).2 = ok at HT' ⊢
  have c0 : w2.cell? ⟨w.heap.size, 0, none⟩ = some (.int .i64 c.asn) := HS.out.cf 0 _ rfl
  have p0 : w2.cell? ⟨w.heap.size + 1, 0, none⟩ = some (.int .i64 pe.num) := HS.out.pf 0 _ rfl
  have p1 : w2.cell? ⟨w.heap.size + 1, 1, none⟩ = some (.int .i64 pe.asn) := HS.out.pf 1 _ rfl
  have r2 : w2.cell? ⟨w.heap.size + 2, 2, none⟩ = some (.int .i64 r.peer) := HS.out.rt.cell 2 rfl
  have r10 : w2.cell? ⟨w.heap.size + 2, 10, none⟩ = some (.int .i64 r.stale) := HS.out.rt.cell 10 rfl
  clear HT HR HA HO
  go_upto_region 2 with fail
  go_cut [58] (fun v wq => v = .bool false ∧ wq = w2)
  case first =>
    have W := fun P : Prop => @told_ways P ok ll (r.peer == pe.num) (decide (0 ≤ r.peer)) (src == c.asn) (pe.asn == c.asn) (r.stale == 2) HT'.out
    clear HT'
    refine W _ ?_ ?_ ?_ ?_ ?_ ?_
    all_goals clear W
    · rintro rfl q1 q2 q5
      go_wp2_with fail
      go_meet
      case rel => exact ⟨rfl, rfl⟩
    · rintro rfl q1 q2 q5 rfl
      go_wp2_with fail
      go_meet
      case rel => exact ⟨rfl, rfl⟩
    · rintro rfl q1 q2 q3 q5
      go_wp2_with fail
      go_meet
      case rel => exact ⟨rfl, rfl⟩
    · rintro rfl q1 q2 q3 q5 rfl
      go_wp2_with fail
      go_meet
      case rel => exact ⟨rfl, rfl⟩
    · rintro rfl q1 q2 q3 q4 q5
      go_wp2_with fail
      go_meet
      case rel => exact ⟨rfl, rfl⟩
    · rintro rfl q1 q2 q3 q4 q5 rfl
      go_wp2_with fail
      go_meet
      case rel => exact ⟨rfl, rfl⟩
  case rest =>
    obtain ⟨rfl, rfl⟩ := hcut
    clear HT' p0 p1 c0 r2 r10
    have hsz := HS.out.sz
    go_wp2_with fail
    refine kept_load_intro _ _ _ (by rfl) (run_loadA HS.out.rt) ?_
    go_wp2_with fail
    refine kept_alloc_intro _ (run_allocA _) ?_
    go_wp2_with fail
    have HX := (Ab.new wc zA).put (C := atC pa pc ca cc ra rc r.att) rfl
    refine kept_store_intro _ _ _ _ (by rfl) (by rfl) (run_storeAb (C := atC pa pc ca cc ra rc r.att) (Ab.new wc zA) rfl (AC.of _ _ _ _ _ _ _)) ?_
    have hb3 : Below wc.heap.size wc ((wc.alloc (.cells zA 34)).setCells wc.heap.size 0 (atC pa pc ca cc ra rc r.att).toList) := below_puts ((Below.refl _ _).alloc (Nat.le_refl _) _) (Nat.le_refl _) _
    replace HS := hide (HS.out.later hb3)
    have hX4 : w.heap.size + 4 ≤ wc.heap.size := hsz
    clear hb3
    generalize hw3 : (wc.alloc (.cells zA 34)).setCells wc.heap.size 0 (atC pa pc ca cc ra rc r.att).toList = w3 at *
    clear hw3
    generalize wc.heap.size = X at *
    have HRD3 := hide (HRD.out.below HS.out.bl)
    have c0 : w3.cell? ⟨w.heap.size, 0, none⟩ = some (.int .i64 c.asn) := HS.out.cf 0 _ rfl
    have p1 : w3.cell? ⟨w.heap.size + 1, 1, none⟩ = some (.int .i64 pe.asn) := HS.out.pf 1 _ rfl
    go_upto_if 66 with fail
    go_cut [66] (fun v wq => Hid (ExSt w wq c pe ia ic oa oc (rtC pa pc ca cc ra rc r) zA) ∧ Hid (∃ pa' pc', Ab wq X (atC pa' pc' ca cc ra rc (toldA c pe r.att)) ∧ ∀ W, Keeps (fun k => k = X ∨ k = w.heap.size + 3) wq W → PthRd W pa' (toldA c pe r.att).path))
    case first =>
      have hs := HSAME.out
      have q0 : (pe.asn == c.asn) = false := by simpa using hs
      have HTA : Hid (toldA c pe r.att = { r.att with path := prepP c.asn r.att.path, next := c.next, med := -1, pref := -1 }) := by show _ = _; unfold toldA; rw [if_neg hs]
      clear hs
      have c2 : w3.cell? ⟨w.heap.size, 2, none⟩ = some (.int .u32 (c.next : Int)) := HS.out.cf 2 _ rfl
      have hX3 : X < w3.heap.size := (Array.getElem?_eq_some_iff.1 HX).1
      have qd : ∀ W, Below (w.heap.size + 4) w3 W → W.cell? ⟨w.heap.size, 0, none⟩ = some (.int .i64 c.asn) ∧ W.cell? ⟨w.heap.size, 2, none⟩ = some (.int .u32 (c.next : Int)) := fun W hb =>
        ⟨by rw [hb.cell (p := ⟨w.heap.size, 0, none⟩) (by show w.heap.size < _; omega)]; exact c0, by rw [hb.cell (p := ⟨w.heap.size, 2, none⟩) (by show w.heap.size < _; omega)]; exact c2⟩
      have HFO : Hid (Ford (fun k => k = X ∨ k = w.heap.size + 3) w w3.drew) := ⟨HS.out.bl.drew, fun k hk => by
        have h9 : w3.drew.heap.size = w3.heap.size := rfl
        rcases hk with rfl | rfl <;> omega⟩
      have HXD : Hid (Ab w3.drew X (atC pa pc ca cc ra rc r.att)) := HX
      have hx1 : w3.drew.cell? ⟨X, 1, none⟩ = some (.slice pa r.att.path.length pc) := HXD.out.cell 1 rfl
      go_wp2_with fail
      refine region_ord (fun W => Below (w.heap.size + 4) w3 W) (fun k => k == 1 || k == 4 || k == 8 || k == 10 || k == 12 || k == 14) [0, 2, 3, 5, 6, 1, 4, 7, 8, 9, 10, 11, 12, 13, 14] (by kernel_rfl) (by kernel_rfl) (by rfl) (by kernel_rfl) (Below.refl _ _).drew ?_
      iterate 5 refine ord_q (by rfl) (by rfl) (by rfl) (fun w9 h9 => (by obtain ⟨t1, t2⟩ := qd w9 h9; go_simp; first | done | rfl)) (by go_simp; first | done | rfl) ?_
      refine ord_l (by rfl) (by rfl) (by rfl) ?_
      go_simp
      refine ⟨(Below.refl _ _).drew, ?_⟩
      refine ord_l (by rfl) (by rfl) (by rfl) ?_
      go_simp
      refine (rprep_anyF (F := fun k => k = X ∨ k = w.heap.size + 3) (wB := w) pa pc r.att.path c.asn w3.drew HFO.out (by have := HL.out; unfold sizeA at this; omega) HCAP.out HRD.out.path).mono ?_
      rintro e w4 ⟨⟨a9, c9, rfl, hW⟩, hb4⟩
      have B4 : Below (w.heap.size + 4) w3 w4 := (Below.refl (w.heap.size + 4) w3).drew.trans (hb4.mono (by show w.heap.size + 4 ≤ w3.heap.size; omega))
      have HX4 := hide (HXD.out.below hb4)
      have HW := hide hW
      clear hW hb4 HXD hx1
      refine ⟨B4, ?_⟩
      refine ord_q (by rfl) (by rfl) (by rfl) (fun w9 h9 => (by go_simp; first | done | rfl)) (by go_simp; first | done | rfl) ?_
      refine ord_l (by rfl) (by rfl) (by rfl) ?_
      have y1 := HX4.out.cell 1 (v := .slice pa r.att.path.length pc) rfl
      have z1 := HX4.out.frozen 1
      go_simp
      have B5 := B4.setCell (p := ⟨X, 1, none⟩) hX4 (.slice a9 (prepP c.asn r.att.path).length c9)
      have HX5 := hide (HX4.out.set 1 (.slice a9 (prepP c.asn r.att.path).length c9))
      have HK5 := hide ((Keeps.refl (fun k => k = X ∨ k = w.heap.size + 3) w4).setCell X 1 (.slice a9 (prepP c.asn r.att.path).length c9) (.inl (.inl rfl)))
      clear y1 z1 HX4
      generalize w4.setCell ⟨X, 1, none⟩ (.slice a9 (prepP c.asn r.att.path).length c9) = w5 at *
      refine ⟨B5, ?_⟩
      refine ord_q (by rfl) (by rfl) (by rfl) (fun w9 h9 => (by go_simp; first | done | rfl)) (by go_simp; first | done | rfl) ?_
      refine ord_l (by rfl) (by rfl) (by rfl) ?_
      have y1 := HX5.out.cell 2 (v := .int .u32 (r.att.next : Int)) rfl
      have z1 := HX5.out.frozen 2
      go_simp
      have B6 := B5.setCell (p := ⟨X, 2, none⟩) hX4 (.int .u32 (c.next : Int))
      have HX6 := hide (HX5.out.set 2 (.int .u32 (c.next : Int)))
      have HK6 := hide (HK5.out.setCell X 2 (.int .u32 (c.next : Int)) (.inl (.inl rfl)))
      clear y1 z1 HX5 HK5
      generalize w5.setCell ⟨X, 2, none⟩ (.int .u32 (c.next : Int)) = w6 at *
      refine ⟨B6, ?_⟩
      refine ord_q (by rfl) (by rfl) (by rfl) (fun w9 h9 => (by go_simp; first | done | rfl)) (by go_simp; first | done | rfl) ?_
      refine ord_l (by rfl) (by rfl) (by rfl) ?_
      have y1 := HX6.out.cell 3 (v := .int .i64 r.att.med) rfl
      have z1 := HX6.out.frozen 3
      go_simp
      have B7 := B6.setCell (p := ⟨X, 3, none⟩) hX4 (.int .i64 (-1))
      have HX7 := hide (HX6.out.set 3 (.int .i64 (-1)))
      have HK7 := hide (HK6.out.setCell X 3 (.int .i64 (-1)) (.inl (.inl rfl)))
      clear y1 z1 HX6 HK6
      generalize w6.setCell ⟨X, 3, none⟩ (.int .i64 (-1)) = w7 at *
      refine ⟨B7, ?_⟩
      refine ord_q (by rfl) (by rfl) (by rfl) (fun w9 h9 => (by go_simp; first | done | rfl)) (by go_simp; first | done | rfl) ?_
      refine ord_l (by rfl) (by rfl) (by rfl) ?_
      have y1 := HX7.out.cell 4 (v := .int .i64 r.att.pref) rfl
      have z1 := HX7.out.frozen 4
      go_simp
      have B8 := B7.setCell (p := ⟨X, 4, none⟩) hX4 (.int .i64 (-1))
      have HX8 := hide (HX7.out.set 4 (.int .i64 (-1)))
      have HK8 := hide (HK7.out.setCell X 4 (.int .i64 (-1)) (.inl (.inl rfl)))
      clear y1 z1 HX7 HK7
      generalize w7.setCell ⟨X, 4, none⟩ (.int .i64 (-1)) = w8 at *
      refine ⟨B8, ?_⟩
      refine ⟨fun _ h => (by cases h), ?_⟩
      have HS8 := hide (HS.out.turn B8 (Nat.le_refl _))
      have HY8 : Hid (Ab w8 X (atC a9 c9 ca cc ra rc (toldA c pe r.att))) := by
        show Ab _ _ _
        rw [HTA.out]
        exact HX8.out
      have HP8 : Hid (∀ W, Keeps (fun k => k = X ∨ k = w.heap.size + 3) w8 W → PthRd W a9 (toldA c pe r.att).path) := fun W hk => by
        rw [HTA.out]
        exact HW.out W (HK8.out.trans hk (fun _ _ h => h))
      clear B4 B5 B6 B7 B8 HX8 HK8 HW
      go_wp2_with fail
      go_meet
      case rel => exact ⟨HS8, a9, c9, HY8.out, HP8.out⟩
    case rest =>
      obtain ⟨HS6, HX6⟩ := hcut
      obtain ⟨pa7, pc7, hx7, hw7⟩ := HX6.out
      have HX6 := hide hx7
      have HWP := hide hw7
      have HTC : Hid ((toldA c pe r.att).comms = r.att.comms ∧ (toldA c pe r.att).raws = r.att.raws ∧ (toldA c pe r.att).next < 4294967296) := by
        show _ ∧ _
        unfold toldA
        rw [if_neg HSAME.out]
        exact ⟨rfl, rfl, HCN.out⟩
      have HRT : Hid (∀ W, Keeps (fun k => k = X ∨ k = w.heap.size + 3) wc W → Below w.heap.size w W → AtRd W pa7 ca ra (toldA c pe r.att)) := fun W h1 h2 => by
        have h3 := HRD.out.below h2
        exact ⟨HWP.out W h1, by rw [HTC.out.1]; exact h3.comms, by rw [HTC.out.2.1]; exact h3.raws, HTC.out.2.2⟩
      have HL6 : Hid (sizeA (toldA c pe r.att) ≤ 100000) := by
        have h1 := toldA_size c pe r.att
        have h2 := HL.out
        show _ ≤ _
        omega
      clear HS HX HRD3 c0 p1 HL HRD HSAME hx7 hw7 HWP HTC
      have HRD6 : Hid (AtRd wc pa7 ca ra (toldA c pe r.att)) := HRT.out wc (Keeps.refl _ _) HS6.out.bl
      go_wp2_with fail
      refine kept_load_intro _ _ _ (by rfl) (run_loadAb HX6.out (AC.of _ _ _ _ _ _ _)) ?_
      go_wp2_with fail
      refine (gooda_any pa7 pc7 ca cc ra rc (toldA c pe r.att) _ HL6.out HRD6.out).mono ?_
      rintro e w7 ⟨rfl, hb7⟩
      have HS7 := hide (HS6.out.later hb7)
      have HX7 := hide (HX6.out.below hb7)
      have HK7 : Hid (Keeps (fun k => k = X ∨ k = w.heap.size + 3) wc w7) := keeps_of hb7
      clear HS6 HX6 HRD6 hb7
      cases hg : goodA (toldA c pe r.att) with
      | false =>
        have HQ : Hid (orNone (toldA c pe r.att) = none) := by show _ = _; unfold orNone; rw [hg]; rfl
        clear hg
        go_wp2_with fail
        refine kept_build0_intro _ (run_build0A _) ?_
        go_wp2_with fail
        refine kept_store_intro _ _ _ _ (by rfl) (by rfl) (run_storeAb HS7.out.res rfl AC.zero) ?_
        have HY9 := HS7.out.res.put (C := zA) rfl
        have HB9 := hide (below_puts HS7.out.bl (X := w.heap.size + 3) (by omega) zA.toList)
        clear HS7
        generalize World.setCells _ (w.heap.size + 3) 0 zA.toList = w9 at *
        go_wp2_with fail
        refine bodyPost_ret (v := .tuple #[.agg zA, .bool false]) (resA_two Tryd.results11 _ w9 (w.heap.size + 3) _ _ rfl rfl HY9 AC.zero) rfl ⟨by rw [HQ.out]; exact rfl, HB9.out⟩
      | true =>
        have HQ : Hid (orNone (toldA c pe r.att) = some (toldA c pe r.att)) := by show _ = _; unfold orNone; rw [hg]; rfl
        clear hg
        go_wp2_with fail
        refine kept_load_intro _ _ _ (by rfl) (run_loadAb HX7.out (AC.of _ _ _ _ _ _ _)) ?_
        go_wp2_with fail
        refine kept_store_intro _ _ _ _ (by rfl) (by rfl) (run_storeAb HS7.out.res rfl (AC.of _ _ _ _ _ _ _)) ?_
        have HY9 := HS7.out.res.put (C := atC pa7 pc7 ca cc ra rc (toldA c pe r.att)) rfl
        have HB9 := hide (below_puts HS7.out.bl (X := w.heap.size + 3) (by omega) (atC pa7 pc7 ca cc ra rc (toldA c pe r.att)).toList)
        have HK9 := hide (HK7.out.setCells (w.heap.size + 3) 0 (atC pa7 pc7 ca cc ra rc (toldA c pe r.att)).toList (.inl (.inr rfl)))
        clear HS7 HX7
        generalize World.setCells _ (w.heap.size + 3) 0 (atC pa7 pc7 ca cc ra rc (toldA c pe r.att)).toList = w9 at *
        go_wp2_with fail
        refine bodyPost_ret (v := .tuple #[.agg (atC pa7 pc7 ca cc ra rc (toldA c pe r.att)), .bool true]) (resA_two Tryd.results11 _ w9 (w.heap.size + 3) _ _ rfl rfl HY9 (AC.of _ _ _ _ _ _ _)) rfl ⟨by rw [HQ.out]; exact ⟨pa7, pc7, rfl, HRT.out w9 HK9.out HB9.out⟩, HB9.out⟩
end
end Go.Proofs.YtclihbfjendllaaDoor
