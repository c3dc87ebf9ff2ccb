/- The document's Attrs, of good attributes. -/
import Derived.Test.YtempaadgheondabDoorHOn2
import Derived.Test.YtempaadgheondabDoorHGl
import Derived.Test.YtempaadgheondabDoorHOwn
import Derived.Deep.RegionWith
import Derived.Deep.DrawnRows
import Derived.Deep.DeepCutAuto
import Derived.Deep.RegionHeld3
namespace Go.Proofs.YtempaadgheondabDoor
open Go.RowKit
set_option maxRecDepth 100000

section
attribute [local go_sem ↓] Go.wp_at_zero Go.wp_at_succ kept_append
set_option maxHeartbeats 12800000 in
theorem rattrs_yes (o : Nat) (pa : Option Addr) (pn pc : Nat) (nx : Nat) (md pf : Int) (ca : Option Addr) (cn cc : Nat) (ra : Option Addr) (rn rc : Nat) (ps : List (Bool × List Int)) (cs : List Nat) (rs : List (Int × Int × List Nat)) (w : World)
    (hpn : ps.length = pn) (hcn : cs.length = cn) (hrn : rs.length = rn) (hl : pn + sumP ps + cn + rn + sumR rs ≤ 20000) (hr : AtRd w pa ca ra ⟨(o : Int), ps, nx, md, pf, cs, rs⟩) (hg : goodA ⟨(o : Int), ps, nx, md, pf, cs, rs⟩ = true) (pre : List Nat) (hpre : pre = enc123 ⟨(o : Int), ps, nx, md, pf, cs, rs⟩ ++ enc45 ⟨(o : Int), ps, nx, md, pf, cs, rs⟩) (com : List Nat) (HC32 : Hid (∀ x ∈ cs, x < 4294967296)) (hcom : com = enc8 ⟨(o : Int), ps, nx, md, pf, cs, rs⟩) :
    Calls Tryd.prog 8 #[.agg #[.int .i64 (o : Int), .slice pa pn pc, .int .u32 (nx : Int), .int .i64 md, .int .i64 pf, .slice ca cn cc, .slice ra rn rc]] w fun e w' => ∃ v, e = .returned v ∧ w'.ownsRow w.heap.size 5 1 v (pre ++ encLo rs ++ com ++ encHi rs).length (bcells (pre ++ encLo rs ++ com ++ encHi rs)) ∧ Below w.heap.size w w' := by
  have hg2 := hg
  unfold goodA headA at hg2
  simp only [Bool.and_eq_true, decide_eq_true_eq] at hg2
  obtain ⟨⟨⟨⟨⟨⟨ho, hgp⟩, _⟩, hm⟩, hp⟩, hc32⟩, hup⟩ := hg2
  have hnx : nx < 4294967296 := hr.next
  have hps := goodP_sum hgp
  have hpl := goodP_len hgp
  have HALL : Hid (∀ i, i < rn → rawK (rs.getD i (0, 0, [])) = true) := fun i hi => rawsUp_all rs.length hup i (by omega)
  have hge : encPath ps = encSegs ps := by unfold encPath; rw [hgp]; rfl
  have HEL : Hid ((encSegs ps).length ≤ 1000) := by show (encSegs ps).length ≤ 1000; rw [encSegs_length]; omega
  have HES := hide (encSegs_small ps (fun s hs => (goodP_seg hgp hs).2.1))
  obtain ⟨wB, hwB⟩ : ∃ wB, wB = w.alloc (.cells #[.int .i64 (o : Int), .slice pa pn pc, .int .u32 (nx : Int), .int .i64 md, .int .i64 pf, .slice ca cn cc, .slice ra rn rc] 27) := ⟨_, rfl⟩
  have hBw : Below w.heap.size w wB := by rw [hwB]; exact (Below.refl _ _).alloc (Nat.le_refl _) _
  have hXs : w.heap.size < wB.heap.size := by rw [hwB]; simp
  have HX : Hid (∀ wq, Below wB.heap.size wB wq → wq.cell? ⟨w.heap.size, 0, none⟩ = some (.int .i64 (o : Int)) ∧ wq.cell? ⟨w.heap.size, 1, none⟩ = some (.slice pa pn pc) ∧ wq.cell? ⟨w.heap.size, 2, none⟩ = some (.int .u32 (nx : Int)) ∧ wq.cell? ⟨w.heap.size, 3, none⟩ = some (.int .i64 md) ∧ wq.cell? ⟨w.heap.size, 4, none⟩ = some (.int .i64 pf) ∧ wq.cell? ⟨w.heap.size, 5, none⟩ = some (.slice ca cn cc) ∧ wq.cell? ⟨w.heap.size, 6, none⟩ = some (.slice ra rn rc) ∧ w.heap.size < wq.heap.size) := fun wq hb => by
    have key : ∀ j, wq.cell? ⟨w.heap.size, j, none⟩ = wB.cell? ⟨w.heap.size, j, none⟩ := fun j => hb.cell (p := ⟨w.heap.size, j, none⟩) hXs
    rw [key, key, key, key, key, key, key, hwB]
    refine ⟨by simp [go_sem], by simp [go_sem], by simp [go_sem], by simp [go_sem], by simp [go_sem], by simp [go_sem], by simp [go_sem], ?_⟩
    exact Nat.lt_of_lt_of_le hXs hb.size
  have KG := hide (gooda_any pa pc ca cc ra rc ⟨(o : Int), ps, nx, md, pf, cs, rs⟩ wB (by unfold sizeA; simp only; omega) (hr.below hBw))
  unfold atV at KG
  simp only at KG
  rw [hg, hpn, hcn, hrn] at KG
  have KP : Hid (∀ w1, Below wB.heap.size wB w1 → Calls Tryd.prog 23 #[.slice pa pn pc] w1 fun e w' => ∃ v, e = .returned v ∧ w'.ownsRow w1.heap.size 5 1 v (encSegs ps).length (bcells (encSegs ps)) ∧ Below w1.heap.size w1 w') := fun w1 hb => by
    have := rpath_any pa pc ps w1 (by omega) ((hr.path.below hBw).below hb)
    rw [hge, hpn] at this
    exact this
  have HRD : Hid (AtRd wB pa ca ra ⟨(o : Int), ps, nx, md, pf, cs, rs⟩) := hr.below hBw
  have HWB := hide hwB
  have HBW := hide hBw
  have HPN := hide hpn
  have HCN := hide hcn
  have HRN := hide hrn
  have ho2 : o ≤ 2 := by have := ho.2; omega
  have hc32b : cn ≤ 32 := by omega
  have hmd : -1 ≤ md ∧ md ≤ 4294967295 := hm
  have hpf : -1 ≤ pf ∧ pf ≤ 4294967295 := hp
  have HP1 : Hid (pre = oneB 64 1 [o] ++ oneB 64 2 (encSegs ps) ++ oneB 64 3 (b4 (nx : Int)) ++ ((if 0 ≤ md then oneB 128 4 (b4 md) else []) ++ (if 0 ≤ pf then oneB 64 5 (b4 pf) else []))) := by
    show pre = _
    rw [hpre]
    unfold enc123 enc45
    simp only [Int.toNat_natCast]
  have HC1 : Hid (com = if 0 < cn then oneB 192 8 (encC cs) else []) := by
    show com = _
    rw [hcom]
    unfold enc8
    simp only [hcn]
  clear hg hup hr hgp hge hpre hcom ho hm hp hc32 hpn hcn hrn hBw hps hpl
  go_enter Tryd.func8, Tryd.ntmps8
  go_wp2_with fail
  rw [← HWB.out]
  refine KG.out.mono ?_
  rintro e w1 ⟨rfl, hb1⟩
  clear hwB
  have HB1 := hide hb1
  obtain ⟨x0, x1, x2, x3, x4, x5, x6, x7⟩ := HX.out w1 hb1
  clear hb1 KG
  have wo : IntKind.u8.wrap (o : Int) = (o : Int) := by rw [IntKind.wrap_u8]; omega
  have hbA : Below w1.heap.size w1 (w1.alloc (.cells #[.int .u8 (o : Int)] 5)) := (Below.refl _ _).alloc (Nat.le_refl _) _
  have hbr : BRd (w1.alloc (.cells #[.int .u8 (o : Int)] 5)) (some ⟨w1.heap.size, 0, none⟩) [o] := by
    refine ⟨⟨by simp [maxLen], fun _ => ⟨w1.heap.size, 0, rfl, fun i hi => ?_⟩⟩, fun x hx => by simp at hx; omega⟩
    rw [Nat.zero_add, World.cell?_alloc_mark]
    have : i = 0 := by simpa using hi
    subst this; rfl
  have K1 := hide (one_any 64 1 (some ⟨w1.heap.size, 0, none⟩) 1 [o] _ (by omega) (by omega) (by simp) hbr)
  have HBA := hide (HB1.out.trans (hbA.mono HB1.out.size))
  clear hbr hbA
  go_wp2_with fail
  refine K1.out.mono ?_
  rintro e w2 ⟨v2, rfl, ho2, hb2⟩
  have HO2 := hide (own_base ho2 HBA.out.size)
  have HB2 : Hid (Below wB.heap.size wB w2) := HBA.out.trans (hb2.mono HBA.out.size)
  obtain ⟨_, y1, y2, y3, y4, y5, y6, y7⟩ := HX.out w2 HB2.out
  clear ho2 hb2 K1 HBA HB1 x0 x1 x2 x3 x4 x5 x6 x7
  go_wp2_with fail
  refine (KP.out _ HB2.out).mono ?_
  rintro e w3 ⟨v3, rfl, ho3, hb3⟩
  obtain ⟨a3, c3, rfl, _, hbr3⟩ := own_brd ho3 (by have := HEL.out; omega) HES.out
  have HB3 : Hid (Below wB.heap.size wB w3) := HB2.out.trans (hb3.mono HB2.out.size)
  have K3 := hide (add_one wB w3 v2 (oneB 64 1 [o]) 64 2 a3 c3 (encSegs ps) (own_later HO2.out hb3) (oneB_pos _ _ _) HB3.out hbr3 (by omega) (by omega) (by have := HEL.out; omega) (by have := oneB_length 64 1 [o]; simp at this; omega))
  clear ho3 hb3 hbr3 HO2 HB2 KP
  generalize hesl : (encSegs ps).length = el at *
  have HSL := hide hesl
  clear hesl
  go_wp2_with fail
  refine K3.out.mono ?_
  rintro e w4 ⟨v4, v5, w5, rfl, hr5, ho5, hb5, _⟩
  have HR5 := hide hr5
  have HO5 := hide ho5
  have HB5 := hide hb5
  clear hr5 ho5 hb5 K3 HB3 y1 y2 y3 y4 y5 y6 y7
  obtain ⟨_, _, z2, z3, z4, z5, z6, z7⟩ := HX.out w5 HB5.out
  go_wp2_with fail
  refine kept_append_intro _ _ v2 v4 v5 (w' := w5) (by rfl) (by rfl) (by exact HR5.out) ?_
  clear HR5
  have hl5 : (oneB 64 1 [o] ++ oneB 64 2 (encSegs ps)).length ≤ 2000 := by
    have h1 := oneB_length 64 1 [o]
    have h2 := oneB_length 64 2 (encSegs ps)
    rw [HSL.out] at h2
    rw [List.length_append]
    simp at h1
    have := HEL.out
    omega
  have hp5 : 0 < (oneB 64 1 [o] ++ oneB 64 2 (encSegs ps)).length := by
    have := oneB_pos 64 1 [o]
    rw [List.length_append]
    omega
  generalize oneB 64 1 [o] ++ oneB 64 2 (encSegs ps) = pre2 at *
  have wn : IntKind.i64.wrap (nx : Int) = (nx : Int) := by rw [IntKind.wrap_i64]; omega
  go_wp2_with fail
  refine (four_eq nx _ hnx).mono ?_
  rintro e w6 ⟨rfl, hw6⟩
  have hb6 : Below w5.heap.size w5 w6 := by rw [hw6]; exact (Below.refl _ _).alloc (Nat.le_refl _) _
  have hbr6 : BRd w6 (some ⟨w5.heap.size, 0, none⟩) (b4 (nx : Int)) := by rw [hw6]; exact four_brd nx w5
  have HB6 : Hid (Below wB.heap.size wB w6) := HB5.out.trans (hb6.mono HB5.out.size)
  have K6 := hide (add_one wB w6 v5 pre2 64 3 (some ⟨w5.heap.size, 0, none⟩) 4 (b4 (nx : Int)) (own_later HO5.out hb6) hp5 HB6.out hbr6 (by omega) (by omega) (by rw [b4_length]; omega) (by omega))
  rw [b4_length] at K6
  clear hw6 hb6 hbr6 HO5 HB5 z2 z3 z4 z5 z6 z7
  go_wp2_with fail
  refine K6.out.mono ?_
  rintro e w7 ⟨v7, v8, w8, rfl, hr8, ho8, hb8, _⟩
  have HR8 := hide hr8
  have HO8 := hide ho8
  have HB8 := hide hb8
  clear hr8 ho8 hb8 K6 HB6
  obtain ⟨_, _, _, z3, z4, z5, z6, z7⟩ := HX.out w8 HB8.out
  have hl8 : (pre2 ++ oneB 64 3 (b4 (nx : Int))).length ≤ 3000 := by
    have h2 := oneB_length 64 3 (b4 (nx : Int))
    rw [b4_length] at h2
    rw [List.length_append]
    omega
  have hp8 : 0 < (pre2 ++ oneB 64 3 (b4 (nx : Int))).length := by
    rw [List.length_append]
    omega
  generalize hp3 : pre2 ++ oneB 64 3 (b4 (nx : Int)) = pre3 at *
  go_upto_if 31 with (refine kept_append_intro _ _ v5 v7 v8 (w' := w8) (by rfl) (by rfl) (by exact HR8.out) ?_)
  clear HR8
  go_cut [3] (fun v wq => Hid (wq.ownsRow wB.heap.size 5 1 v (pre3 ++ (if 0 ≤ md then oneB 128 4 (b4 md) else [])).length (bcells (pre3 ++ (if 0 ≤ md then oneB 128 4 (b4 md) else [])))) ∧ Hid (Below wB.heap.size wB wq))
  case first =>
    by_cases hz0 : 0 ≤ md
    · have HIF : Hid ((if 0 ≤ md then oneB 128 4 (b4 md) else []) = oneB 128 4 (b4 md)) := if_pos hz0
      obtain ⟨n0, hn0⟩ := Int.eq_ofNat_of_zero_le hz0
      have hn32 : n0 < 4294967296 := by have := hmd.2; omega
      have K5 := hide (four_eq n0 w8 hn32)
      rw [← hn0] at K5
      have HADD : Hid (∀ w6, w6 = w8.alloc (.cells (bcells ((List.range 4).map (byteAt n0))).toArray 5) → Calls Tryd.prog 22 #[.int .i64 128, .int .i64 4, .slice (some ⟨w8.heap.size, 0, none⟩) 4 4] w6 fun e w2 => ∃ v2 v3 w3, e = .returned v2 ∧ (Builtin.append_ #[28, 28] 28 #[v8, v2]).run Tryd.prog w2 = .ok v3 w3 ∧ w3.ownsRow wB.heap.size 5 1 v3 (pre3 ++ oneB 128 4 (b4 md)).length (bcells (pre3 ++ oneB 128 4 (b4 md))) ∧ Below wB.heap.size wB w3) := fun w6 hw6 => by
        have hb6 : Below w8.heap.size w8 w6 := by rw [hw6]; exact (Below.refl _ _).alloc (Nat.le_refl _) _
        have hbr6 : BRd w6 (some ⟨w8.heap.size, 0, none⟩) (b4 md) := by rw [hw6, hn0]; exact four_brd n0 w8
        have h9 := add_one wB w6 v8 pre3 128 4 (some ⟨w8.heap.size, 0, none⟩) 4 (b4 md) (own_later HO8.out hb6) hp8 (HB8.out.trans (hb6.mono HB8.out.size)) hbr6 (by omega) (by omega) (by rw [b4_length]; omega) (by omega)
        rw [b4_length] at h9
        refine h9.mono ?_
        rintro e w2 ⟨v2, v3, w3, h1, h2, h3, h4, _⟩
        exact ⟨v2, v3, w3, h1, h2, h3, h4⟩
      clear hn0 hn32
      go_wp2_with fail
      refine K5.out.mono ?_
      rintro e w6 ⟨rfl, hw6⟩
      have HW6 := hide hw6
      clear hw6
      go_wp2_with fail
      refine (HADD.out w6 HW6.out).mono ?_
      rintro e w7 ⟨v7, v9, w9, rfl, hr9, ho9, hb9⟩
      have HR9 := hide hr9
      have HO9 := hide ho9
      have HB9 := hide hb9
      clear hr9 ho9 hb9
      go_wp2_with (refine kept_append_intro _ _ v8 v7 v9 (w' := w9) (by rfl) (by rfl) (by exact HR9.out) ?_)
      go_meet
      exact ⟨by show World.ownsRow _ _ _ _ _ _ _; rw [HIF.out]; exact HO9.out, HB9⟩
    · have hzf : decide (0 ≤ md) = false := decide_eq_false hz0
      have HIF : Hid ((if 0 ≤ md then oneB 128 4 (b4 md) else []) = []) := if_neg hz0
      go_wp2_with fail
      go_meet
      exact ⟨by show World.ownsRow _ _ _ _ _ _ _; rw [HIF.out, List.append_nil]; exact HO8.out, HB8⟩
  case rest =>
    obtain ⟨HO9, HB9⟩ := hcut
    clear HO8 HB8 z3 z4 z5 z6 z7
    obtain ⟨wd, hwd⟩ : ∃ wd : World, wd = wc := ⟨wc, rfl⟩
    subst hwd
    obtain ⟨vd, hvd⟩ : ∃ vd : Value, vd = u3 := ⟨u3, rfl⟩
    subst hvd
    obtain ⟨_, _, _, z3, z4, z5, z6, z7⟩ := HX.out wd HB9.out
    have hl9 : (pre3 ++ (if 0 ≤ md then oneB 128 4 (b4 md) else [])).length ≤ 4000 := by
      have h2 := oneB_length 128 4 (b4 md)
      rw [b4_length] at h2
      rw [List.length_append]
      split <;> simp <;> omega
    have hp9 : 0 < (pre3 ++ (if 0 ≤ md then oneB 128 4 (b4 md) else [])).length := by rw [List.length_append]; omega
    clear hl8 hp8
    have hl8 := hl9
    have hp8 := hp9
    clear hl9 hp9
    generalize hp4 : pre3 ++ (if 0 ≤ md then oneB 128 4 (b4 md) else []) = pre4 at *
    have HP4 := hide hp4
    clear hp4
    go_upto_if 40 with fail
    go_cut [3] (fun v wq => Hid (wq.ownsRow wB.heap.size 5 1 v (pre4 ++ (if 0 ≤ pf then oneB 64 5 (b4 pf) else [])).length (bcells (pre4 ++ (if 0 ≤ pf then oneB 64 5 (b4 pf) else [])))) ∧ Hid (Below wB.heap.size wB wq))
    case first =>
      by_cases hz0 : 0 ≤ pf
      · have HIF : Hid ((if 0 ≤ pf then oneB 64 5 (b4 pf) else []) = oneB 64 5 (b4 pf)) := if_pos hz0
        obtain ⟨n0, hn0⟩ := Int.eq_ofNat_of_zero_le hz0
        have hn32 : n0 < 4294967296 := by have := hpf.2; omega
        have K5 := hide (four_eq n0 wd hn32)
        rw [← hn0] at K5
        have HADD : Hid (∀ w6, w6 = wd.alloc (.cells (bcells ((List.range 4).map (byteAt n0))).toArray 5) → Calls Tryd.prog 22 #[.int .i64 64, .int .i64 5, .slice (some ⟨wd.heap.size, 0, none⟩) 4 4] w6 fun e w2 => ∃ v2 v3 w3, e = .returned v2 ∧ (Builtin.append_ #[28, 28] 28 #[vd, v2]).run Tryd.prog w2 = .ok v3 w3 ∧ w3.ownsRow wB.heap.size 5 1 v3 (pre4 ++ oneB 64 5 (b4 pf)).length (bcells (pre4 ++ oneB 64 5 (b4 pf))) ∧ Below wB.heap.size wB w3) := fun w6 hw6 => by
          have hb6 : Below wd.heap.size wd w6 := by rw [hw6]; exact (Below.refl _ _).alloc (Nat.le_refl _) _
          have hbr6 : BRd w6 (some ⟨wd.heap.size, 0, none⟩) (b4 pf) := by rw [hw6, hn0]; exact four_brd n0 wd
          have h9 := add_one wB w6 vd pre4 64 5 (some ⟨wd.heap.size, 0, none⟩) 4 (b4 pf) (own_later HO9.out hb6) hp8 (HB9.out.trans (hb6.mono HB9.out.size)) hbr6 (by omega) (by omega) (by rw [b4_length]; omega) (by omega)
          rw [b4_length] at h9
          refine h9.mono ?_
          rintro e w2 ⟨v2, v3, w3, h1, h2, h3, h4, _⟩
          exact ⟨v2, v3, w3, h1, h2, h3, h4⟩
        clear hn0 hn32
        go_wp2_with fail
        refine K5.out.mono ?_
        rintro e w6 ⟨rfl, hw6⟩
        have HW6 := hide hw6
        clear hw6
        go_wp2_with fail
        refine (HADD.out w6 HW6.out).mono ?_
        rintro e w7 ⟨v7, v9, w9, rfl, hr9, ho9, hb9⟩
        have HR9 := hide hr9
        have HO9 := hide ho9
        have HB9 := hide hb9
        clear hr9 ho9 hb9
        go_wp2_with (refine kept_append_intro _ _ vd v7 v9 (w' := w9) (by rfl) (by rfl) (by exact HR9.out) ?_)
        go_meet
        exact ⟨by show World.ownsRow _ _ _ _ _ _ _; rw [HIF.out]; exact HO9.out, HB9⟩
      · have hzf : decide (0 ≤ pf) = false := decide_eq_false hz0
        have HIF : Hid ((if 0 ≤ pf then oneB 64 5 (b4 pf) else []) = []) := if_neg hz0
        go_wp2_with fail
        go_meet
        exact ⟨by show World.ownsRow _ _ _ _ _ _ _; rw [HIF.out, List.append_nil]; exact HO9.out, HB9⟩
    case rest =>
      obtain ⟨HO8, HB8⟩ := hcut
      clear HO9 HB9 z3 z4 z5 z6 z7
      obtain ⟨we, hwe⟩ : ∃ we : World, we = wc := ⟨wc, rfl⟩
      subst hwe
      obtain ⟨ve, hve⟩ : ∃ ve : Value, ve = u3 := ⟨u3, rfl⟩
      subst hve
      have hl9 : (pre4 ++ (if 0 ≤ pf then oneB 64 5 (b4 pf) else [])).length ≤ 5000 := by
        have h2 := oneB_length 64 5 (b4 pf)
        rw [b4_length] at h2
        rw [List.length_append]
        split <;> simp <;> omega
      have hp9 : 0 < (pre4 ++ (if 0 ≤ pf then oneB 64 5 (b4 pf) else [])).length := by rw [List.length_append]; omega
      have HPE : Hid (pre4 ++ (if 0 ≤ pf then oneB 64 5 (b4 pf) else []) = pre) := by
        show _ = pre
        rw [HP1.out, ← HP4.out, List.append_assoc]
      rw [HPE.out] at HO8 hl9 hp9
      clear hl8 hp8 HPE HP4
      have hl8 := hl9
      have hp8 := hp9
      clear hl9 hp9
      go_wp2
      go_loopw [3, 4] (fun v i wq => ∃ k : Nat, k ≤ rn ∧ i = .int .i64 k ∧ Hid (wq.ownsRow wB.heap.size 5 1 v (pre ++ encLo (rs.take k)).length (bcells (pre ++ encLo (rs.take k)))) ∧ Hid (Below wB.heap.size wB wq)) (fun _ i _ => rn - (intOf i).toNat)
      case atStart => exact ⟨0, Nat.zero_le _, rfl, by show World.ownsRow _ _ _ _ _ _ _; rw [List.take_zero, show encLo [] = [] from rfl, List.append_nil]; exact HO8.out, HB8⟩
      case round =>
        clear HO8 HB8
        obtain ⟨k, hk, rfl, HO, HB⟩ := hrel
        obtain ⟨_, _, _, _, _, x5, x6, x7⟩ := HX.out wr HB.out
        by_cases hlt : k < rn
        · have hkp : k < rs.length := by rw [HRN.out]; exact hlt
          obtain ⟨b, off, hae, hc⟩ := HRD.out.raws (by show 0 < rs.length; omega)
          subst hae
          obtain ⟨e0, e1, a', c', e2, _, hbr⟩ := hc k rs[k] (List.getElem?_eq_getElem hkp)
          have z0 := World.block_lt_of_cell? wB _ e0
          simp only at z0
          have zz1 : b < wr.heap.size := Nat.lt_of_lt_of_le z0 HB.out.size
          have hra := HALL.out k hlt
          rw [show rs.getD k (0, 0, []) = rs[k] from by rw [List.getD_eq_getElem?_getD, List.getElem?_eq_getElem hkp]; rfl] at hra
          obtain ⟨fl, ty, hfl, hty, hf240, ht6, ht256, hne8, hd255⟩ := rawK_nat hra
          have HT : Hid (encLo (rs.take (k + 1)) = encLo (rs.take k) ++ (if (rs[k]).2.1 < 8 then oneB (rs[k]).1.toNat (rs[k]).2.1.toNat (rs[k]).2.2 else [])) := by show encLo (rs.take (k + 1)) = _; rw [List.take_succ_eq_append_getElem hkp, encLo_snoc]
          have hel : (encLo (rs.take k)).length ≤ 100000 := by
            have h1 := encLo_length (rs.take k)
            have h2 := sumR_take rs k
            rw [List.length_take] at h1
            omega
          rw [hfl] at e0 HT
          rw [hty] at e1 HT
          have f0 : wr.cell? ⟨b, off + k * 3, none⟩ = some (.int .i64 (fl : Int)) := by rw [HB.out.cell (p := ⟨b, off + k * 3, none⟩) z0]; exact e0
          have f1 : wr.cell? ⟨b, off + k * 3 + 1, none⟩ = some (.int .i64 (ty : Int)) := by rw [HB.out.cell (p := ⟨b, off + k * 3 + 1, none⟩) z0]; exact e1
          have f2 : wr.cell? ⟨b, off + k * 3 + 2, none⟩ = some (.slice a' (rs[k]).2.2.length c') := by rw [HB.out.cell (p := ⟨b, off + k * 3 + 2, none⟩) z0]; exact e2
          have HBR := hide (hbr.below HB.out)
          generalize (rs[k]).2.2 = ds at *
          have E0 := hide e0
          have E1 := hide e1
          have E2 := hide e2
          clear e0 e1 e2 hbr hra hfl hty hc
          have HDD := hide hd255
          clear hd255
          have hk0 : (0 : Int) ≤ (k : Int) := Int.natCast_nonneg _
          have hk1 : (k : Int) < (rn : Int) := by omega
          by_cases ht8 : ty < 8
          · have i8 : (ty : Int) < 8 := by omega
            have hdr : Below wr.heap.size wr wr.drew := (Below.refl _ _).drew
            have HAD := hide (add_one wB wr.drew u3 (pre ++ encLo (rs.take k)) fl ty a' c' ds (own_later HO.out hdr) (by rw [List.length_append]; omega) (HB.out.trans (hdr.mono HB.out.size)) (HBR.out.below hdr) hf240 ht256 (by have := HDD.out; omega) (by rw [List.length_append]; omega))
            have HT2 : Hid (pre ++ encLo (rs.take (k + 1)) = pre ++ encLo (rs.take k) ++ oneB fl ty ds) := by
              show pre ++ encLo (rs.take (k + 1)) = _
              rw [HT.out, if_pos i8, Int.toNat_natCast, Int.toNat_natCast, ← List.append_assoc]
            rw [← HT2.out] at HAD
            generalize ds.length = dl at *
            clear HT HT2 hel HBR
            go_wp2_with fail
            go_region_held3 (fun w' => w'.cell? ⟨w.heap.size, 6, none⟩ = some (.slice (some ⟨b, off, none⟩) rn rc) ∧ w'.cell? ⟨b, off + k * 3, none⟩ = some (.int .i64 (fl : Int)) ∧ w'.cell? ⟨b, off + k * 3 + 1, none⟩ = some (.int .i64 (ty : Int)) ∧ w'.cell? ⟨b, off + k * 3 + 2, none⟩ = some (.slice a' dl c'))
              (first
                | (go_split_ands; refine ⟨?_, ?_, ?_, ?_⟩ <;> (first | assumption | (simp only [World.cell?_drew]; assumption))))
              (first
                | (go_at_call 22; refine HAD.out.mono ?_; rintro e w5 ⟨v5, v6, w6, rfl, hr6, ho6, hb6, hb5⟩
                   have y6 : w5.cell? ⟨w.heap.size, 6, none⟩ = some (.slice (some ⟨b, off, none⟩) rn rc) := (by rw [hb5.cell (p := ⟨w.heap.size, 6, none⟩) x7]; exact x6)
                   have g0 : w5.cell? ⟨b, off + k * 3, none⟩ = some (.int .i64 (fl : Int)) := (by rw [hb5.cell (p := ⟨b, off + k * 3, none⟩) zz1]; exact f0)
                   have g1 : w5.cell? ⟨b, off + k * 3 + 1, none⟩ = some (.int .i64 (ty : Int)) := (by rw [hb5.cell (p := ⟨b, off + k * 3 + 1, none⟩) zz1]; exact f1)
                   have g2 : w5.cell? ⟨b, off + k * 3 + 2, none⟩ = some (.slice a' dl c') := (by rw [hb5.cell (p := ⟨b, off + k * 3 + 2, none⟩) zz1]; exact f2)
                   have q6 := (HX.out w6 hb6).2.2.2.2.2.2.1
                   have p0 : w6.cell? ⟨b, off + k * 3, none⟩ = some (.int .i64 (fl : Int)) := (by rw [hb6.cell (p := ⟨b, off + k * 3, none⟩) z0]; exact E0.out)
                   have p1 : w6.cell? ⟨b, off + k * 3 + 1, none⟩ = some (.int .i64 (ty : Int)) := (by rw [hb6.cell (p := ⟨b, off + k * 3 + 1, none⟩) z0]; exact E1.out)
                   have p2 : w6.cell? ⟨b, off + k * 3 + 2, none⟩ = some (.slice a' dl c') := (by rw [hb6.cell (p := ⟨b, off + k * 3 + 2, none⟩) z0]; exact E2.out)
                   have HR6 := hide hr6; have HO6 := hide ho6; have HB6 := hide hb6; clear hr6 ho6 hb6 hb5)
                | (refine kept_append_intro _ _ u3 v5 v6 (w' := w6) (by rfl) (by rfl) (by exact HR6.out) ?_))
            all_goals go_wp2
            all_goals exact ⟨⟨k + 1, by omega, by go_num, HO6, HB6⟩, by simp [intOf]; omega⟩
          · have i8 : decide ((ty : Int) < 8) = false := decide_eq_false (by omega)
            have HT2 : Hid (encLo (rs.take (k + 1)) = encLo (rs.take k)) := by
              show encLo (rs.take (k + 1)) = _
              rw [HT.out, if_neg (by omega), List.append_nil]
            clear HT
            go_wp2
            exact ⟨⟨k + 1, by omega, by go_num, by show World.ownsRow _ _ _ _ _ _ _; rw [HT2.out]; exact HO.out, HB⟩, by simp [intOf]; omega⟩
        · have hkl : rs.take k = rs := List.take_of_length_le (by rw [HRN.out]; omega)
          rw [hkl] at HO
          clear hkl
          have hlo : (pre ++ encLo rs).length ≤ 100000 := by
            have h1 := encLo_length rs
            rw [HRN.out] at h1
            rw [List.length_append]
            omega
          have hpo : 0 < (pre ++ encLo rs).length := by rw [List.length_append]; omega
          generalize hpl : pre ++ encLo rs = PL at *
          have HPL := hide hpl
          clear hpl
          obtain ⟨wS, hwS⟩ : ∃ wS : World, wS = wr := ⟨wr, rfl⟩
          subst hwS
          obtain ⟨vo, hvo⟩ : ∃ vo : Value, vo = u3 := ⟨u3, rfl⟩
          subst hvo
          go_wp2
          go_loopw [5, 6] (fun v i wq => ∃ j : Nat, j ≤ cn ∧ i = .int .i64 j ∧ Hid (wq.ownsRow wS.heap.size 5 1 v (encC (cs.take j)).length (bcells (encC (cs.take j)))) ∧ Hid (Below wS.heap.size wS wq)) (fun _ i _ => cn - (intOf i).toNat)
          case atStart => exact ⟨0, Nat.zero_le _, rfl, own_nil _ _ _ _, Below.refl _ _⟩
          case round =>
            obtain ⟨j, hj, rfl, HQ, HS⟩ := hrel
            clear x5 x6 x7
            obtain ⟨_, _, _, _, _, x5, x6, x7⟩ := HX.out wr (HB.out.trans (HS.out.mono HB.out.size))
            by_cases hjl : j < cn
            · have hjp : j < cs.length := by rw [HCN.out]; exact hjl
              obtain ⟨b2, o2, hae2, hc2⟩ := HRD.out.comms (by show 0 < cs.length; omega)
              subst hae2
              have t0 := hc2 j cs[j] (List.getElem?_eq_getElem hjp)
              have zt := World.block_lt_of_cell? wB _ t0
              simp only at zt
              have t1 : wr.cell? ⟨b2, o2 + j, none⟩ = some (.int .u32 ((cs[j] : Nat) : Int)) := by
                rw [(HB.out.trans (HS.out.mono HB.out.size)).cell (p := ⟨b2, o2 + j, none⟩) zt]; exact t0
              have HTC : Hid (encC (cs.take (j + 1)) = encC (cs.take j) ++ b4 ((cs[j] : Nat) : Int)) := by show encC (cs.take (j + 1)) = _; rw [List.take_succ_eq_append_getElem hjp, encC_snoc]
              have hx32 := HC32.out cs[j] (List.getElem_mem hjp)
              generalize cs[j] = x at *
              have hecl : (encC (cs.take j)).length ≤ 1000 := by rw [encC_length, List.length_take]; omega
              obtain ⟨v3, w3, hr3, ho3, hb3⟩ := app_new elemU8 HQ.out HS.out.size 4 (bcells ((List.range 4).map (byteAt x))) (by simp [bcells]) (bcells_one _) (by omega) wr.heap.size rfl
              have HR3 := hide hr3
              have HO3 : Hid (w3.ownsRow wS.heap.size 5 1 v3 (encC (cs.take (j + 1))).length (bcells (encC (cs.take (j + 1))))) := by
                show World.ownsRow _ _ _ _ _ _ _
                rw [HTC.out, bcells_app, List.length_append, b4_length, show b4 (x : Int) = (List.range 4).map (byteAt x) from by unfold b4; rw [Int.toNat_natCast]]
                exact ho3
              have HB3 : Hid (Below wS.heap.size wS w3) := HS.out.trans hb3
              clear hr3 ho3 hb3 HTC t0 hc2
              have hj0 : (0 : Int) ≤ (j : Int) := Int.natCast_nonneg _
              have hj1 : (j : Int) < (cn : Int) := by omega
              have zt2 : b2 < wr.heap.size := Nat.lt_of_lt_of_le zt (HB.out.trans (HS.out.mono HB.out.size)).size
              have wx : IntKind.i64.wrap (x : Int) = (x : Int) := by rw [IntKind.wrap_i64]; omega
              have K4 := hide (four_eq x wr hx32)
              go_wp2_with fail
              refine K4.out.mono ?_
              rintro e w9 ⟨rfl, hw9⟩
              rw [← hw9] at HR3
              clear hw9 K4
              go_wp2_with (refine kept_append_intro _ _ u5 (.slice (some ⟨wr.heap.size, 0, none⟩) 4 4) v3 (w' := w3) (by rfl) (by rfl) (by exact HR3.out) ?_)
              exact ⟨⟨j + 1, by omega, by go_num, HO3, HB3⟩, by simp [intOf]; omega⟩
            · have hjl2 : cs.take j = cs := List.take_of_length_le (by rw [HCN.out]; omega)
              rw [hjl2] at HQ
              clear hjl2
              have hecl : (encC cs).length = 4 * cn := by rw [encC_length, HCN.out]
              have HBq : Hid (Below wB.heap.size wB wr) := HB.out.trans (HS.out.mono HB.out.size)
              have HOq := hide (own_later HO.out HS.out)
              obtain ⟨a5, c5, hv5, _, hbr5⟩ := own_brd HQ.out (by omega) (nums_small _)
              rw [hecl] at hv5
              subst hv5
              clear HQ HS HO HB
              obtain ⟨wf, hwf⟩ : ∃ wf : World, wf = wr := ⟨wr, rfl⟩
              subst hwf
              go_upto_if 100 with fail
              go_cut [3] (fun v wq => Hid (wq.ownsRow wB.heap.size 5 1 v (PL ++ com).length (bcells (PL ++ com))) ∧ Hid (Below wB.heap.size wB wq))
              case first =>
                by_cases hcz : 0 < cn
                · have i4 : (0 : Int) < 4 * (cn : Int) := by omega
                  have i4n : 0 < cn := hcz
                  have K8 := hide (add_one wB wf vo PL 192 8 a5 c5 (encC cs) HOq.out hpo HBq.out hbr5 (by omega) (by omega) (by omega) (by omega))
                  rw [hecl] at K8
                  have HCM : Hid (com = oneB 192 8 (encC cs)) := by show com = _; rw [HC1.out, if_pos hcz]
                  rw [← HCM.out] at K8
                  clear hbr5 HCM
                  go_wp2_with fail
                  refine K8.out.mono ?_
                  rintro e w7 ⟨v7, v8, w8, rfl, hr8, ho8, hb8, _⟩
                  have HR8 := hide hr8
                  have HO8 := hide ho8
                  have HB8 := hide hb8
                  clear hr8 ho8 hb8 K8
                  go_wp2_with (refine kept_append_intro _ _ vo v7 v8 (w' := w8) (by rfl) (by rfl) (by exact HR8.out) ?_)
                  go_meet
                  exact ⟨HO8, HB8⟩
                · have i4 : decide ((0 : Int) < 4 * (cn : Int)) = false := decide_eq_false (by omega)
                  have i4n : decide (0 < cn) = false := decide_eq_false hcz
                  have HCM : Hid (com = []) := by show com = _; rw [HC1.out, if_neg hcz]
                  clear hbr5
                  go_wp2_with fail
                  go_meet
                  exact ⟨by show World.ownsRow _ _ _ _ _ _ _; rw [HCM.out, List.append_nil]; exact HOq.out, HBq⟩
              case rest =>
                obtain ⟨HO8, HB8⟩ := hcut
                have hcoml : com.length ≤ 1000 := by
                  rw [HC1.out]
                  have := oneB_length 192 8 (encC cs)
                  split <;> simp <;> omega
                have hl8 : (PL ++ com).length ≤ 110000 := by rw [List.length_append]; omega
                have hp8 : 0 < (PL ++ com).length := by rw [List.length_append]; omega
                clear hbr5 HOq HBq
                go_wp2
                go_loopw [3, 7] (fun v i wq => ∃ k : Nat, k ≤ rn ∧ i = .int .i64 k ∧ Hid (wq.ownsRow wB.heap.size 5 1 v ((PL ++ com) ++ encHi (rs.take k)).length (bcells ((PL ++ com) ++ encHi (rs.take k)))) ∧ Hid (Below wB.heap.size wB wq)) (fun _ i _ => rn - (intOf i).toNat)
                case atStart => exact ⟨0, Nat.zero_le _, rfl, by show World.ownsRow _ _ _ _ _ _ _; rw [List.take_zero, show encHi [] = [] from rfl, List.append_nil]; exact HO8.out, HB8⟩
                case round =>
                  clear HO8 HB8
                  obtain ⟨k, hk, rfl, HO, HB⟩ := hrel
                  obtain ⟨_, _, _, _, _, x5, x6, x7⟩ := HX.out wr HB.out
                  by_cases hlt : k < rn
                  · have hkp : k < rs.length := by rw [HRN.out]; exact hlt
                    obtain ⟨b, off, hae, hc⟩ := HRD.out.raws (by show 0 < rs.length; omega)
                    subst hae
                    obtain ⟨e0, e1, a', c', e2, _, hbr⟩ := hc k rs[k] (List.getElem?_eq_getElem hkp)
                    have z0 := World.block_lt_of_cell? wB _ e0
                    simp only at z0
                    have zz1 : b < wr.heap.size := Nat.lt_of_lt_of_le z0 HB.out.size
                    have hra := HALL.out k hlt
                    rw [show rs.getD k (0, 0, []) = rs[k] from by rw [List.getD_eq_getElem?_getD, List.getElem?_eq_getElem hkp]; rfl] at hra
                    obtain ⟨fl, ty, hfl, hty, hf240, ht6, ht256, hne8, hd255⟩ := rawK_nat hra
                    have HT : Hid (encHi (rs.take (k + 1)) = encHi (rs.take k) ++ (if 8 < (rs[k]).2.1 then oneB (rs[k]).1.toNat (rs[k]).2.1.toNat (rs[k]).2.2 else [])) := by show encHi (rs.take (k + 1)) = _; rw [List.take_succ_eq_append_getElem hkp, encHi_snoc]
                    have hel : (encHi (rs.take k)).length ≤ 100000 := by
                      have h1 := encHi_length (rs.take k)
                      have h2 := sumR_take rs k
                      rw [List.length_take] at h1
                      omega
                    rw [hfl] at e0 HT
                    rw [hty] at e1 HT
                    have f0 : wr.cell? ⟨b, off + k * 3, none⟩ = some (.int .i64 (fl : Int)) := by rw [HB.out.cell (p := ⟨b, off + k * 3, none⟩) z0]; exact e0
                    have f1 : wr.cell? ⟨b, off + k * 3 + 1, none⟩ = some (.int .i64 (ty : Int)) := by rw [HB.out.cell (p := ⟨b, off + k * 3 + 1, none⟩) z0]; exact e1
                    have f2 : wr.cell? ⟨b, off + k * 3 + 2, none⟩ = some (.slice a' (rs[k]).2.2.length c') := by rw [HB.out.cell (p := ⟨b, off + k * 3 + 2, none⟩) z0]; exact e2
                    have HBR := hide (hbr.below HB.out)
                    generalize (rs[k]).2.2 = ds at *
                    have E0 := hide e0
                    have E1 := hide e1
                    have E2 := hide e2
                    clear e0 e1 e2 hbr hra hfl hty hc
                    have HDD := hide hd255
                    clear hd255
                    have hk0 : (0 : Int) ≤ (k : Int) := Int.natCast_nonneg _
                    have hk1 : (k : Int) < (rn : Int) := by omega
                    by_cases ht8 : 8 < ty
                    · have i8 : 8 < (ty : Int) := by omega
                      have hdr : Below wr.heap.size wr wr.drew := (Below.refl _ _).drew
                      have HAD := hide (add_one wB wr.drew u3 ((PL ++ com) ++ encHi (rs.take k)) fl ty a' c' ds (own_later HO.out hdr) (by rw [List.length_append]; omega) (HB.out.trans (hdr.mono HB.out.size)) (HBR.out.below hdr) hf240 ht256 (by have := HDD.out; omega) (by rw [List.length_append]; omega))
                      have HT2 : Hid ((PL ++ com) ++ encHi (rs.take (k + 1)) = (PL ++ com) ++ encHi (rs.take k) ++ oneB fl ty ds) := by
                        show (PL ++ com) ++ encHi (rs.take (k + 1)) = _
                        rw [HT.out, if_pos i8, Int.toNat_natCast, Int.toNat_natCast, ← List.append_assoc]
                      rw [← HT2.out] at HAD
                      generalize ds.length = dl at *
                      clear HT HT2 hel HBR
                      go_wp2_with fail
                      go_region_held3 (fun w' => w'.cell? ⟨w.heap.size, 6, none⟩ = some (.slice (some ⟨b, off, none⟩) rn rc) ∧ w'.cell? ⟨b, off + k * 3, none⟩ = some (.int .i64 (fl : Int)) ∧ w'.cell? ⟨b, off + k * 3 + 1, none⟩ = some (.int .i64 (ty : Int)) ∧ w'.cell? ⟨b, off + k * 3 + 2, none⟩ = some (.slice a' dl c'))
                        (first
                          | (go_split_ands; refine ⟨?_, ?_, ?_, ?_⟩ <;> (first | assumption | (simp only [World.cell?_drew]; assumption))))
                        (first
                          | (go_at_call 22; refine HAD.out.mono ?_; rintro e w5 ⟨v5, v6, w6, rfl, hr6, ho6, hb6, hb5⟩
                             have y6 : w5.cell? ⟨w.heap.size, 6, none⟩ = some (.slice (some ⟨b, off, none⟩) rn rc) := (by rw [hb5.cell (p := ⟨w.heap.size, 6, none⟩) x7]; exact x6)
                             have g0 : w5.cell? ⟨b, off + k * 3, none⟩ = some (.int .i64 (fl : Int)) := (by rw [hb5.cell (p := ⟨b, off + k * 3, none⟩) zz1]; exact f0)
                             have g1 : w5.cell? ⟨b, off + k * 3 + 1, none⟩ = some (.int .i64 (ty : Int)) := (by rw [hb5.cell (p := ⟨b, off + k * 3 + 1, none⟩) zz1]; exact f1)
                             have g2 : w5.cell? ⟨b, off + k * 3 + 2, none⟩ = some (.slice a' dl c') := (by rw [hb5.cell (p := ⟨b, off + k * 3 + 2, none⟩) zz1]; exact f2)
                             have q6 := (HX.out w6 hb6).2.2.2.2.2.2.1
                             have p0 : w6.cell? ⟨b, off + k * 3, none⟩ = some (.int .i64 (fl : Int)) := (by rw [hb6.cell (p := ⟨b, off + k * 3, none⟩) z0]; exact E0.out)
                             have p1 : w6.cell? ⟨b, off + k * 3 + 1, none⟩ = some (.int .i64 (ty : Int)) := (by rw [hb6.cell (p := ⟨b, off + k * 3 + 1, none⟩) z0]; exact E1.out)
                             have p2 : w6.cell? ⟨b, off + k * 3 + 2, none⟩ = some (.slice a' dl c') := (by rw [hb6.cell (p := ⟨b, off + k * 3 + 2, none⟩) z0]; exact E2.out)
                             have HR6 := hide hr6; have HO6 := hide ho6; have HB6 := hide hb6; clear hr6 ho6 hb6 hb5)
                          | (refine kept_append_intro _ _ u3 v5 v6 (w' := w6) (by rfl) (by rfl) (by exact HR6.out) ?_))
                      all_goals go_wp2
                      all_goals exact ⟨⟨k + 1, by omega, by go_num, HO6, HB6⟩, by simp [intOf]; omega⟩
                    · have i8 : decide (8 < (ty : Int)) = false := decide_eq_false (by omega)
                      have HT2 : Hid (encHi (rs.take (k + 1)) = encHi (rs.take k)) := by
                        show encHi (rs.take (k + 1)) = _
                        rw [HT.out, if_neg (by omega), List.append_nil]
                      clear HT
                      go_wp2
                      exact ⟨⟨k + 1, by omega, by go_num, by show World.ownsRow _ _ _ _ _ _ _; rw [HT2.out]; exact HO.out, HB⟩, by simp [intOf]; omega⟩
                  · have hkl : rs.take k = rs := List.take_of_length_le (by rw [HRN.out]; omega)
                    rw [hkl] at HO
                    clear hkl
                    go_wp2
                    go_ret
                    exact ⟨_, rfl, by have h9 := own_base HO.out (Nat.le_of_lt hXs); rw [← HPL.out] at h9; exact h9, HBW.out.trans (HB.out.mono (Nat.le_of_lt hXs))⟩
end
set_option maxHeartbeats 800000 in
theorem rattrs_no (pa : Option Addr) (pc : Nat) (ca : Option Addr) (cc : Nat) (ra : Option Addr) (rc : Nat) (a : At) (w : World) (hl : sizeA a ≤ 100000) (h : AtRd w pa ca ra a) (hg : goodA a = false) :
    Calls Tryd.prog 8 #[atV pa pc ca cc ra rc a] w fun e w' => ∃ v, e = .returned v ∧ w'.ownsRow w.heap.size 5 1 v 0 [] ∧ Below w.heap.size w w' := by
  have K : Hid (∀ w1, Below w.heap.size w w1 → Calls Tryd.prog 5 #[atV pa pc ca cc ra rc a] w1 fun e w' => e = .returned (.bool (goodA a)) ∧ Below w1.heap.size w1 w') := fun w1 hb => gooda_any pa pc ca cc ra rc a w1 hl (h.below hb)
  rw [hg] at K
  unfold atV at K ⊢
  clear h hl hg
  generalize a.path.length = pn at *
  generalize a.comms.length = cn at *
  generalize a.raws.length = rn at *
  go_enter Tryd.func8, Tryd.ntmps8
  go_wp2_with fail
  refine (K.out _ ((Below.refl _ _).alloc (Nat.le_refl _) _)).mono ?_
  rintro e w1 ⟨rfl, hb⟩
  have HB := hide (((Below.refl _ _).alloc (Nat.le_refl _) _).trans (hb.mono (by simp)) : Below w.heap.size w w1)
  clear hb K
  go_wp2
  go_ret
  exact ⟨_, rfl, own_nil _ _ _ _, HB.out⟩
theorem rattrs_any (pa : Option Addr) (pc : Nat) (ca : Option Addr) (cc : Nat) (ra : Option Addr) (rc : Nat) (a : At) (w : World) (hl : sizeA a ≤ 20000) (h : AtRd w pa ca ra a) (hc : ∀ x ∈ a.comms, x < 4294967296) :
    Calls Tryd.prog 8 #[atV pa pc ca cc ra rc a] w fun e w' => ∃ v, e = .returned v ∧ w'.ownsRow w.heap.size 5 1 v (encA a).length (bcells (encA a)) ∧ Below w.heap.size w w' := by
  cases hg : goodA a with
  | false =>
    rw [show encA a = [] from by unfold encA; rw [hg]; rfl]
    exact rattrs_no pa pc ca cc ra rc a w (by omega) h hg
  | true =>
    obtain ⟨o, ps, nx, md, pf, cs, rs⟩ := a
    have ho : 0 ≤ o := by
      have h9 := hg
      unfold goodA headA at h9
      simp only [Bool.and_eq_true, decide_eq_true_eq] at h9
      exact h9.1.1.1.1.1.1.1
    obtain ⟨n, rfl⟩ := Int.eq_ofNat_of_zero_le ho
    have e : encA ⟨(n : Int), ps, nx, md, pf, cs, rs⟩ = enc123 ⟨(n : Int), ps, nx, md, pf, cs, rs⟩ ++ enc45 ⟨(n : Int), ps, nx, md, pf, cs, rs⟩ ++ encLo rs ++ enc8 ⟨(n : Int), ps, nx, md, pf, cs, rs⟩ ++ encHi rs := by unfold encA; rw [hg]; rfl
    rw [e]
    exact rattrs_yes n pa _ pc nx md pf ca _ cc ra _ rc ps cs rs w rfl rfl rfl (by unfold sizeA at hl; exact hl) h hg _ rfl _ hc rfl
end Go.Proofs.YtempaadgheondabDoor
