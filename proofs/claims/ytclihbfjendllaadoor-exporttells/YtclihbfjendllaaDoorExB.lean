/- The document's Export. -/
import Derived.Test.YtclihbfjendllaaDoorKAq
import Derived.Test.YtclihbfjendllaaDoorKAp
import Derived.Test.YtclihbfjendllaaDoorAtGl
import Derived.Deep.DeepCutAuto
namespace Go.Proofs.YtclihbfjendllaaDoor
open Go.RowKit
set_option maxRecDepth 100000

/-- Where Export begins: its boxes. -/
structure ExSt (w w1 : World) (c : Cfg) (pe : Pcf) (ia : Option Addr) (ic : Nat) (oa : Option Addr) (oc : Nat) (R A : Array Value) : Prop where
  cf : ∀ j v, (cfgC c)[j]? = some v → w1.cell? ⟨w.heap.size, j, none⟩ = some v
  pf : ∀ j v, (pcfC ia ic oa oc pe)[j]? = some v → w1.cell? ⟨w.heap.size + 1, j, none⟩ = some v
  rt : Bl w1 (w.heap.size + 2) R
  res : Ab w1 (w.heap.size + 3) A
  sz : w.heap.size + 4 ≤ w1.heap.size
  bl : Below w.heap.size w w1
theorem ExSt.later {w w1 w2 : World} {c : Cfg} {pe : Pcf} {ia : Option Addr} {ic : Nat} {oa : Option Addr} {oc : Nat} {R A : Array Value} (h : ExSt w w1 c pe ia ic oa oc R A) (hb : Below w1.heap.size w1 w2) : ExSt w w2 c pe ia ic oa oc R A := by
  have hs := h.sz
  exact ⟨fun j v hv => by rw [hb.cell (by show w.heap.size < _; omega)]; exact h.cf j v hv, fun j v hv => by rw [hb.cell (by show w.heap.size + 1 < _; omega)]; exact h.pf j v hv, h.rt.below hb, h.res.below hb, by have := hb.size; omega, h.bl.trans (hb.mono (by omega))⟩
theorem ExSt.turn {w w1 w2 : World} {c : Cfg} {pe : Pcf} {ia : Option Addr} {ic : Nat} {oa : Option Addr} {oc B : Nat} {R A : Array Value} (h : ExSt w w1 c pe ia ic oa oc R A) (hb : Below B w1 w2) (hB : w.heap.size + 4 ≤ B) : ExSt w w2 c pe ia ic oa oc R A := by
  have hs := h.sz
  exact ⟨fun j v hv => by rw [hb.cell (by show w.heap.size < _; omega)]; exact h.cf j v hv, fun j v hv => by rw [hb.cell (by show w.heap.size + 1 < _; omega)]; exact h.pf j v hv, by unfold Bl; rw [hb.block _ (by omega)]; exact h.rt, by unfold Ab; rw [hb.block _ (by omega)]; exact h.res, by have := hb.size; omega, h.bl.trans (hb.mono (by omega))⟩
theorem cell_made (w : World) (C : Array Value) (t : TypeId) (j : Nat) (v : Value) (hv : C[j]? = some v) : (w.alloc (.cells C t)).cell? ⟨w.heap.size, j, none⟩ = some v := by
  have e : (w.alloc (.cells C t)).heap[w.heap.size]? = some (.cells C t (0, 0)) := by unfold World.alloc; exact Array.getElem?_push_size
  revert e
  generalize w.alloc _ = w1
  intro e
  simp [World.cell?, e, hv]
theorem ex_start (w : World) (c : Cfg) (pe : Pcf) (ia : Option Addr) (ic : Nat) (oa : Option Addr) (oc : Nat) (R : Array Value) (t u : TypeId) :
    ExSt w ((((w.alloc (.cells (cfgC c) t)).alloc (.cells (pcfC ia ic oa oc pe) u)).alloc (.cells R 36)).alloc (.cells zA 34)) c pe ia ic oa oc R zA := by
  have h1 : ∀ j v, (cfgC c)[j]? = some v → (w.alloc (.cells (cfgC c) t)).cell? ⟨w.heap.size, j, none⟩ = some v := fun j v hv => cell_made w _ t j v hv
  have h2 : ∀ j v, (pcfC ia ic oa oc pe)[j]? = some v → ((w.alloc (.cells (cfgC c) t)).alloc (.cells (pcfC ia ic oa oc pe) u)).cell? ⟨w.heap.size + 1, j, none⟩ = some v := fun j v hv => by
    have e : (w.alloc (.cells (cfgC c) t)).heap.size = w.heap.size + 1 := by simp
    rw [← e]
    exact cell_made _ _ u j v hv
  have b1 : Below w.heap.size w (w.alloc (.cells (cfgC c) t)) := (Below.refl _ _).alloc (Nat.le_refl _) _
  have b2 : Below (w.alloc (.cells (cfgC c) t)).heap.size (w.alloc (.cells (cfgC c) t)) ((w.alloc (.cells (cfgC c) t)).alloc (.cells (pcfC ia ic oa oc pe) u)) := (Below.refl _ _).alloc (Nat.le_refl _) _
  generalize hw1 : w.alloc (.cells (cfgC c) t) = w1 at *
  have s1 : w1.heap.size = w.heap.size + 1 := by rw [← hw1]; simp
  generalize hw2 : w1.alloc (.cells (pcfC ia ic oa oc pe) u) = w2 at *
  have s2 : w2.heap.size = w.heap.size + 2 := by rw [← hw2, World.size_alloc, s1]
  have b3 : Below w2.heap.size w2 (w2.alloc (.cells R 36)) := (Below.refl _ _).alloc (Nat.le_refl _) _
  have n3 := Bl.new w2 R
  generalize hw3 : w2.alloc (.cells R 36) = w3 at *
  have s3 : w3.heap.size = w.heap.size + 3 := by rw [← hw3, World.size_alloc, s2]
  have b4 : Below w3.heap.size w3 (w3.alloc (.cells zA 34)) := (Below.refl _ _).alloc (Nat.le_refl _) _
  have n4 := Ab.new w3 zA
  generalize hw4 : w3.alloc (.cells zA 34) = w4 at *
  have s4 : w4.heap.size = w.heap.size + 4 := by rw [← hw4, World.size_alloc, s3]
  refine ⟨fun j v hv => ?_, fun j v hv => ?_, ?_, ?_, by omega, ?_⟩
  · rw [b4.cell (by show w.heap.size < _; omega), b3.cell (by show w.heap.size < _; omega), b2.cell (by show w.heap.size < _; omega)]
    exact h1 j v hv
  · rw [b4.cell (by show w.heap.size + 1 < _; omega), b3.cell (by show w.heap.size + 1 < _; omega)]
    exact h2 j v hv
  · have := n3.below b4
    rwa [s2] at this
  · rwa [s3] at n4
  · exact ((b1.trans (b2.mono (by omega))).trans (b3.mono (by omega))).trans (b4.mono (by omega))
/-- What is good, or nothing. -/
def orNone (a : At) : Option At := if goodA a then some a else none
theorem tell_ways {P : Prop} {ok ll q n s t z : Bool} (h : (ok && !q && !(n && s && t) && !(z && !ll)) = false) (h1 : ok = false → P) (h2 : ok = true → q = true → P) (h3 : ok = true → q = false → n = true → s = true → t = true → P) (h4 : ok = true → q = false → n = false → z = true → ll = false → P) (h5 : ok = true → q = false → n = true → s = false → z = true → ll = false → P) (h6 : ok = true → q = false → n = true → s = true → t = false → z = true → ll = false → P) : P := by
  cases ok
  · exact h1 rfl
  cases q
  · cases n
    · cases z
      · cases h
      · cases ll
        · exact h4 rfl rfl rfl rfl rfl
        · cases h
    · cases s
      · cases z
        · cases h
        · cases ll
          · exact h5 rfl rfl rfl rfl rfl rfl
          · cases h
      · cases t
        · cases z
          · cases h
          · cases ll
            · exact h6 rfl rfl rfl rfl rfl rfl rfl
            · cases h
        · exact h3 rfl rfl rfl rfl rfl
  · exact h2 rfl rfl
theorem told_ways {P : Prop} {ok ll q n s t z : Bool} (h : (ok && !q && !(n && s && t) && !(z && !ll)) = true) (h1 : ok = true → q = false → n = false → z = false → P) (h2 : ok = true → q = false → n = false → z = true → ll = true → P) (h3 : ok = true → q = false → n = true → s = false → z = false → P) (h4 : ok = true → q = false → n = true → s = false → z = true → ll = true → P) (h5 : ok = true → q = false → n = true → s = true → t = false → z = false → P) (h6 : ok = true → q = false → n = true → s = true → t = false → z = true → ll = true → P) : P := by
  cases ok
  · cases h
  cases q
  · cases n
    · cases z
      · exact h1 rfl rfl rfl rfl
      · cases ll
        · cases h
        · exact h2 rfl rfl rfl rfl rfl
    · cases s
      · cases z
        · exact h3 rfl rfl rfl rfl rfl
        · cases ll
          · cases h
          · exact h4 rfl rfl rfl rfl rfl rfl
      · cases t
        · cases z
          · exact h5 rfl rfl rfl rfl rfl rfl
          · cases ll
            · cases h
            · exact h6 rfl rfl rfl rfl rfl rfl rfl
        · cases h
  · cases h
section
attribute [local go_sem ↓] keptR_load keptR_store keptR_box keptR_alloc keptR_build keptA_load keptA_store keptA_alloc keptA_build
set_option maxHeartbeats 3200000 in
theorem rexport_no (c : Cfg) (pe : Pcf) (ia : Option Addr) (ic : Nat) (oa : Option Addr) (oc : Nat) (ll : Bool) (pa : Option Addr) (pc : Nat) (ca : Option Addr) (cc : Nat) (ra : Option Addr) (rc : Nat) (r : Rt) (src : Int) (w : World) (ho : pe.out.length ≤ 1000) (hr : RulesIn w oa pe.out) (hA : r.A < 4294967296) (ht : tellB c pe ll r src = false) :
    Calls Tryd.prog 11 #[.agg (cfgC c), .agg (pcfC ia ic oa oc pe), .bool ll, rtV pa pc ca cc ra rc r, .int .i64 src] w fun e w' => ExpIs w' e ca cc ra rc none ∧ Below w.heap.size w w' := by
  have HR := hide hr
  have HA := hide hA
  have HO := hide ho
  have HT := hide ht
  clear hr hA ho ht
  rw [rtV_eq]
  have HS := hide (ex_start w c pe ia ic oa oc (rtC pa pc ca cc ra rc r) 24 27)
  unfold cfgC pcfC at HS ⊢
  go_enter Tryd.func11, Tryd.ntmps11
  go_wp2_with fail
  refine kept_box_intro _ _ _ (by rfl) (run_boxR (rtC pa pc ca cc ra rc r) _) ?_
  go_wp2_with fail
  refine kept_alloc_intro _ (run_allocA _) ?_
  simp only [World.size_alloc]
  generalize World.alloc (World.alloc (World.alloc (World.alloc w _) _) _) _ = w1 at HS ⊢
  have c0 : w1.cell? ⟨w.heap.size, 0, none⟩ = some (.int .i64 c.asn) := HS.out.cf 0 _ rfl
  have p3 : w1.cell? ⟨w.heap.size + 1, 3, none⟩ = some (.slice oa pe.out.length oc) := HS.out.pf 3 _ rfl
  have r0 : w1.cell? ⟨w.heap.size + 2, 0, none⟩ = some (.int .u32 (r.A : Int)) := HS.out.rt.cell 0 rfl
  have r1 : w1.cell? ⟨w.heap.size + 2, 1, none⟩ = some (.int .i64 r.L) := HS.out.rt.cell 1 rfl
  go_wp2_with fail
  refine (rapply_any oa _ oc r.A r.L pe.out w1 HO.out rfl (HR.out.below HS.out.bl (Nat.le_refl _)) HA.out).mono ?_
  rintro e w2 ⟨rfl, hb⟩
  replace HS := hide (HS.out.later hb)
  clear hb c0 p3 r0 r1
  have HT' : Hid (((applyR pe.out r.A r.L).2 && !(decide (r.peer = pe.num)) && !(decide (0 ≤ r.peer) && decide (src = c.asn) && decide (pe.asn = c.asn)) && !(decide (r.stale = 2) && !ll)) = false) := HT
  generalize (applyR pe.out r.A r.L).1 = k1
  generalize (applyR pe.out r.A r.L).2 = ok at HT' ⊢
  have c0 : w2.cell? ⟨w.heap.size, 0, none⟩ = some (.int .i64 c.asn) := HS.out.cf 0 _ rfl
  have p0 : w2.cell? ⟨w.heap.size + 1, 0, none⟩ = some (.int .i64 pe.num) := HS.out.pf 0 _ rfl
  have p1 : w2.cell? ⟨w.heap.size + 1, 1, none⟩ = some (.int .i64 pe.asn) := HS.out.pf 1 _ rfl
  have r2 : w2.cell? ⟨w.heap.size + 2, 2, none⟩ = some (.int .i64 r.peer) := HS.out.rt.cell 2 rfl
  have r10 : w2.cell? ⟨w.heap.size + 2, 10, none⟩ = some (.int .i64 r.stale) := HS.out.rt.cell 10 rfl
  clear HT HR HA HO
  go_upto_region 2 with fail
  go_cut [58] (fun v wq => v = .bool true ∧ wq = w2)
  case first =>
    have W := fun P : Prop => @tell_ways P ok ll (r.peer == pe.num) (decide (0 ≤ r.peer)) (src == c.asn) (pe.asn == c.asn) (r.stale == 2) HT'.out
    clear HT'
    refine W _ ?_ ?_ ?_ ?_ ?_ ?_
    all_goals clear W
    · rintro rfl
      go_wp2_with fail
      go_meet
      case rel => exact ⟨rfl, rfl⟩
    · rintro rfl q1
      go_wp2_with fail
      go_meet
      case rel => exact ⟨rfl, rfl⟩
    · rintro rfl q1 q2 q3 q4
      go_wp2_with fail
      go_meet
      case rel => exact ⟨rfl, rfl⟩
    · rintro rfl q1 q2 q5 rfl
      go_wp2_with fail
      go_meet
      case rel => exact ⟨rfl, rfl⟩
    · rintro rfl q1 q2 q3 q5 rfl
      go_wp2_with fail
      go_meet
      case rel => exact ⟨rfl, rfl⟩
    · rintro rfl q1 q2 q3 q4 q5 rfl
      go_wp2_with fail
      go_meet
      case rel => exact ⟨rfl, rfl⟩
  case rest =>
    obtain ⟨rfl, rfl⟩ := hcut
    clear HT' p0 p1 c0 r2 r10
    go_wp2_with fail
    refine kept_build0_intro _ (run_build0A _) ?_
    go_wp2_with fail
    refine kept_store_intro _ _ _ _ (by rfl) (by rfl) (run_storeAb HS.out.res rfl AC.zero) ?_
    have HY9 := HS.out.res.put (C := zA) rfl
    have HB9 := hide (below_puts HS.out.bl (X := w.heap.size + 3) (by omega) zA.toList)
    clear HS
    generalize World.setCells _ (w.heap.size + 3) 0 zA.toList = w9 at *
    go_wp2_with fail
    refine bodyPost_ret (v := .tuple #[.agg zA, .bool false]) (resA_two Tryd.results11 _ w9 (w.heap.size + 3) _ _ rfl rfl HY9 AC.zero) rfl ⟨rfl, HB9.out⟩
set_option maxHeartbeats 3200000 in
theorem rexport_ours (c : Cfg) (pe : Pcf) (ia : Option Addr) (ic : Nat) (oa : Option Addr) (oc : Nat) (ll : Bool) (pa : Option Addr) (pc : Nat) (ca : Option Addr) (cc : Nat) (ra : Option Addr) (rc : Nat) (r : Rt) (src : Int) (w : World) (hl : sizeA r.att ≤ 90000) (hrd : AtRd w pa ca ra r.att) (ho : pe.out.length ≤ 1000) (hr : RulesIn w oa pe.out) (hA : r.A < 4294967296) (ht : tellB c pe ll r src = true) (hs : pe.asn = c.asn) :
    Calls Tryd.prog 11 #[.agg (cfgC c), .agg (pcfC ia ic oa oc pe), .bool ll, rtV pa pc ca cc ra rc r, .int .i64 src] w fun e w' => ExpIs w' e ca cc ra rc (orNone (toldA c pe r.att)) ∧ Below w.heap.size w w' := by
  have HR := hide hr
  have HA := hide hA
  have HO := hide ho
  have HT := hide ht
  have HL := hide hl
  have HSAME := hide hs
  clear hs
  have HRD := hide hrd
  clear hr hA ho ht hl hrd
  rw [rtV_eq]
  have HS := hide (ex_start w c pe ia ic oa oc (rtC pa pc ca cc ra rc r) 24 27)
  unfold cfgC pcfC at HS ⊢
  go_enter Tryd.func11, Tryd.ntmps11
  go_wp2_with fail
  refine kept_box_intro _ _ _ (by rfl) (run_boxR (rtC pa pc ca cc ra rc r) _) ?_
  go_wp2_with fail
  refine kept_alloc_intro _ (run_allocA _) ?_
  simp only [World.size_alloc]
  generalize World.alloc (World.alloc (World.alloc (World.alloc w _) _) _) _ = w1 at HS ⊢
  have c0 : w1.cell? ⟨w.heap.size, 0, none⟩ = some (.int .i64 c.asn) := HS.out.cf 0 _ rfl
  have p3 : w1.cell? ⟨w.heap.size + 1, 3, none⟩ = some (.slice oa pe.out.length oc) := HS.out.pf 3 _ rfl
  have r0 : w1.cell? ⟨w.heap.size + 2, 0, none⟩ = some (.int .u32 (r.A : Int)) := HS.out.rt.cell 0 rfl
  have r1 : w1.cell? ⟨w.heap.size + 2, 1, none⟩ = some (.int .i64 r.L) := HS.out.rt.cell 1 rfl
  go_wp2_with fail
  refine (rapply_any oa _ oc r.A r.L pe.out w1 HO.out rfl (HR.out.below HS.out.bl (Nat.le_refl _)) HA.out).mono ?_
  rintro e w2 ⟨rfl, hb⟩
  replace HS := hide (HS.out.later hb)
  clear hb c0 p3 r0 r1
  have HT' : Hid (((applyR pe.out r.A r.L).2 && !(decide (r.peer = pe.num)) && !(decide (0 ≤ r.peer) && decide (src = c.asn) && decide (pe.asn = c.asn)) && !(decide (r.stale = 2) && !ll)) = true) := HT
  generalize (applyR pe.out r.A r.L).1 = k1
  generalize (applyR pe.out r.A r.L).2 = ok at HT' ⊢
  have c0 : w2.cell? ⟨w.heap.size, 0, none⟩ = some (.int .i64 c.asn) := HS.out.cf 0 _ rfl
  have p0 : w2.cell? ⟨w.heap.size + 1, 0, none⟩ = some (.int .i64 pe.num) := HS.out.pf 0 _ rfl
  have p1 : w2.cell? ⟨w.heap.size + 1, 1, none⟩ = some (.int .i64 pe.asn) := HS.out.pf 1 _ rfl
  have r2 : w2.cell? ⟨w.heap.size + 2, 2, none⟩ = some (.int .i64 r.peer) := HS.out.rt.cell 2 rfl
  have r10 : w2.cell? ⟨w.heap.size + 2, 10, none⟩ = some (.int .i64 r.stale) := HS.out.rt.cell 10 rfl
  clear HT HR HA HO
  go_upto_region 2 with fail
  go_cut [58] (fun v wq => v = .bool false ∧ wq = w2)
  case first =>
    have W := fun P : Prop => @told_ways P ok ll (r.peer == pe.num) (decide (0 ≤ r.peer)) (src == c.asn) (pe.asn == c.asn) (r.stale == 2) HT'.out
    clear HT'
    refine W _ ?_ ?_ ?_ ?_ ?_ ?_
    all_goals clear W
    · rintro rfl q1 q2 q5
      go_wp2_with fail
      go_meet
      case rel => exact ⟨rfl, rfl⟩
    · rintro rfl q1 q2 q5 rfl
      go_wp2_with fail
      go_meet
      case rel => exact ⟨rfl, rfl⟩
    · rintro rfl q1 q2 q3 q5
      go_wp2_with fail
      go_meet
      case rel => exact ⟨rfl, rfl⟩
    · rintro rfl q1 q2 q3 q5 rfl
      go_wp2_with fail
      go_meet
      case rel => exact ⟨rfl, rfl⟩
    · rintro rfl q1 q2 q3 q4 q5
      go_wp2_with fail
      go_meet
      case rel => exact ⟨rfl, rfl⟩
    · rintro rfl q1 q2 q3 q4 q5 rfl
      go_wp2_with fail
      go_meet
      case rel => exact ⟨rfl, rfl⟩
  case rest =>
    obtain ⟨rfl, rfl⟩ := hcut
    clear HT' p0 p1 c0 r2 r10
    have hsz := HS.out.sz
    go_wp2_with fail
    refine kept_load_intro _ _ _ (by rfl) (run_loadA HS.out.rt) ?_
    go_wp2_with fail
    refine kept_alloc_intro _ (run_allocA _) ?_
    go_wp2_with fail
    have HX := (Ab.new wc zA).put (C := atC pa pc ca cc ra rc r.att) rfl
    refine kept_store_intro _ _ _ _ (by rfl) (by rfl) (run_storeAb (C := atC pa pc ca cc ra rc r.att) (Ab.new wc zA) rfl (AC.of _ _ _ _ _ _ _)) ?_
    have hb3 : Below wc.heap.size wc ((wc.alloc (.cells zA 34)).setCells wc.heap.size 0 (atC pa pc ca cc ra rc r.att).toList) := below_puts ((Below.refl _ _).alloc (Nat.le_refl _) _) (Nat.le_refl _) _
    replace HS := hide (HS.out.later hb3)
    have hX4 : w.heap.size + 4 ≤ wc.heap.size := hsz
    clear hb3
    generalize hw3 : (wc.alloc (.cells zA 34)).setCells wc.heap.size 0 (atC pa pc ca cc ra rc r.att).toList = w3 at *
    clear hw3
    generalize wc.heap.size = X at *
    have HRD3 := hide (HRD.out.below HS.out.bl)
    have c0 : w3.cell? ⟨w.heap.size, 0, none⟩ = some (.int .i64 c.asn) := HS.out.cf 0 _ rfl
    have p1 : w3.cell? ⟨w.heap.size + 1, 1, none⟩ = some (.int .i64 pe.asn) := HS.out.pf 1 _ rfl
    go_upto_if 66 with fail
    go_cut [66] (fun v wq => Hid (ExSt w wq c pe ia ic oa oc (rtC pa pc ca cc ra rc r) zA) ∧ Hid (Ab wq X (atC pa pc ca cc ra rc (toldA c pe r.att))))
    case first =>
      have hs := HSAME.out
      have q0 : (pe.asn == c.asn) = true := by simpa using hs
      have x4 : w3.cell? ⟨X, 4, none⟩ = some (.int .i64 r.att.pref) := HX.cell 4 rfl
      have f4 := HX.frozen 4
      by_cases hp : r.att.pref = -1
      · have q1 : (r.att.pref == -1) = true := by simpa using hp
        have HTA : Hid (toldA c pe r.att = { r.att with pref := 100 }) := by show _ = _; unfold toldA; rw [if_pos hs, if_pos hp]
        clear hs hp
        go_wp2_with fail
        have HX5 := hide (HX.set 4 (.int .i64 100))
        have hb5 : Below (w.heap.size + 4) w3 (w3.setCell ⟨X, 4, none⟩ (.int .i64 100)) := (Below.refl _ _).setCell hX4 _
        have HS5 := hide (HS.out.turn hb5 (Nat.le_refl _))
        have HRD5 := hide (HRD.out.below HS5.out.bl)
        clear hb5
        go_meet
        case rel => exact ⟨HS5, by rw [HTA.out]; exact HX5⟩
      · have q1 : (r.att.pref == -1) = false := by simpa using hp
        have HTA : Hid (toldA c pe r.att = r.att) := by show _ = _; unfold toldA; rw [if_pos hs, if_neg hp]
        clear hs hp
        go_wp2_with fail
        go_meet
        case rel => exact ⟨HS, by rw [HTA.out]; exact hide HX⟩
    case rest =>
      obtain ⟨HS6, HX6⟩ := hcut
      have HRT : Hid (AtRd w pa ca ra (toldA c pe r.att)) := by
        show AtRd _ _ _ _ _
        unfold toldA
        rw [if_pos HSAME.out]
        exact ⟨HRD.out.path, HRD.out.comms, HRD.out.raws, HRD.out.next⟩
      have HL6 : Hid (sizeA (toldA c pe r.att) ≤ 100000) := by
        show _ ≤ _
        unfold toldA
        rw [if_pos HSAME.out]
        exact (show sizeA r.att ≤ 100000 from Nat.le_trans HL.out (by omega))
      clear HS HX HRD3 c0 p1 HL HRD HSAME
      have HRD6 := hide (HRT.out.below HS6.out.bl)
      go_wp2_with fail
      refine kept_load_intro _ _ _ (by rfl) (run_loadAb HX6.out (AC.of _ _ _ _ _ _ _)) ?_
      go_wp2_with fail
      refine (gooda_any pa pc ca cc ra rc (toldA c pe r.att) _ HL6.out HRD6.out).mono ?_
      rintro e w7 ⟨rfl, hb7⟩
      have HS7 := hide (HS6.out.later hb7)
      have HX7 := hide (HX6.out.below hb7)
      clear HS6 HX6 HRD6 hb7
      cases hg : goodA (toldA c pe r.att) with
      | false =>
        have HQ : Hid (orNone (toldA c pe r.att) = none) := by show _ = _; unfold orNone; rw [hg]; rfl
        clear hg
        go_wp2_with fail
        refine kept_build0_intro _ (run_build0A _) ?_
        go_wp2_with fail
        refine kept_store_intro _ _ _ _ (by rfl) (by rfl) (run_storeAb HS7.out.res rfl AC.zero) ?_
        have HY9 := HS7.out.res.put (C := zA) rfl
        have HB9 := hide (below_puts HS7.out.bl (X := w.heap.size + 3) (by omega) zA.toList)
        clear HS7
        generalize World.setCells _ (w.heap.size + 3) 0 zA.toList = w9 at *
        go_wp2_with fail
        refine bodyPost_ret (v := .tuple #[.agg zA, .bool false]) (resA_two Tryd.results11 _ w9 (w.heap.size + 3) _ _ rfl rfl HY9 AC.zero) rfl ⟨by rw [HQ.out]; exact rfl, HB9.out⟩
      | true =>
        have HQ : Hid (orNone (toldA c pe r.att) = some (toldA c pe r.att)) := by show _ = _; unfold orNone; rw [hg]; rfl
        clear hg
        go_wp2_with fail
        refine kept_load_intro _ _ _ (by rfl) (run_loadAb HX7.out (AC.of _ _ _ _ _ _ _)) ?_
        go_wp2_with fail
        refine kept_store_intro _ _ _ _ (by rfl) (by rfl) (run_storeAb HS7.out.res rfl (AC.of _ _ _ _ _ _ _)) ?_
        have HY9 := HS7.out.res.put (C := atC pa pc ca cc ra rc (toldA c pe r.att)) rfl
        have HB9 := hide (below_puts HS7.out.bl (X := w.heap.size + 3) (by omega) (atC pa pc ca cc ra rc (toldA c pe r.att)).toList)
        clear HS7 HX7
        generalize World.setCells _ (w.heap.size + 3) 0 (atC pa pc ca cc ra rc (toldA c pe r.att)).toList = w9 at *
        go_wp2_with fail
        refine bodyPost_ret (v := .tuple #[.agg (atC pa pc ca cc ra rc (toldA c pe r.att)), .bool true]) (resA_two Tryd.results11 _ w9 (w.heap.size + 3) _ _ rfl rfl HY9 (AC.of _ _ _ _ _ _ _)) rfl ⟨by rw [HQ.out]; exact ⟨pa, pc, rfl, HRT.out.below HB9.out⟩, HB9.out⟩
end
end Go.Proofs.YtclihbfjendllaaDoor
