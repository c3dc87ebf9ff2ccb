/- RouteOwn's walk. -/
import Derived.Test.YtnblkgffgbiemaaRtL
namespace Go.Proofs.Ytnblkgffgbiemaa
open Go.RowKit
set_option maxRecDepth 100000

section
attribute [local go_sem ↓] keptR_load keptR_store keptR_box keptR_alloc keptR_build keptA_load
set_option maxHeartbeats 3200000 in
theorem own_great (pa : Option Addr) (pc : Nat) (ca : Option Addr) (cc : Nat) (ra : Option Addr) (rc : Nat) (r : Rt) (w : World) (hba : BigR r) (h1 : AtRd w pa ca ra r.att) (hs : smallR r = false) :
    Calls Try.prog 5 #[rtV pa pc ca cc ra rc r] w fun e w' => e = .returned (.bool true) ∧ Below w.heap.size w w' := by
  rw [rtV_eq]
  have HR1 := hide h1
  have HS := hide hs
  clear h1 hs
  go_enter Try.func5, Try.ntmps5
  go_wp2_with fail
  refine kept_box_intro _ _ _ (by rfl) (run_boxR _ w) ?_
  have HB0 : Hid (Below w.heap.size w (w.alloc (.cells (rtC pa pc ca cc ra rc r) 31))) := (Below.refl _ _).alloc (Nat.le_refl _) _
  have HX0 : Hid (Bl (w.alloc (.cells (rtC pa pc ca cc ra rc r) 31)) w.heap.size (rtC pa pc ca cc ra rc r)) := Bl.new w _
  generalize w.alloc (.cells (rtC pa pc ca cc ra rc r) 31) = w0 at *
  go_wp2_with fail
  refine kept_load_intro _ _ _ (by rfl) (run_loadR HX0.out (RC.rt _ _ _ _ _ _ _)) ?_
  go_wp2_with fail
  refine (small_is w0 hba (HR1.out.below HB0.out) HS.out).mono ?_
  rintro e w1 ⟨rfl, hb1⟩
  have HB1 : Hid (Below w.heap.size w w1) := HB0.out.trans (hb1.mono HB0.out.size)
  clear hb1 HX0 HB0
  go_wp2_with fail
  refine (answers_any w1).mono ?_
  rintro e w2 ⟨rfl, hb2⟩
  have HB2 : Hid (Below w.heap.size w w2) := HB1.out.trans (hb2.mono HB1.out.size)
  clear hb2 HB1
  go_wp2
  go_ret
  exact ⟨rfl, HB2.out⟩
set_option maxHeartbeats 12800000 in
theorem own_small (pa : Option Addr) (pc : Nat) (ca : Option Addr) (cc : Nat) (ra : Option Addr) (rc : Nat) (r : Rt) (w : World) (hba : BigR r) (h1 : AtRd w pa ca ra r.att) (hs : smallR r = true) :
    Calls Try.prog 5 #[rtV pa pc ca cc ra rc r] w fun e w' => e = .returned (.bool true) ∧ Below w.heap.size w w' := by
  rw [rtV_eq]
  have HR1 := hide h1
  have HS := hide hs
  have HZ : Hid (sizeA r.att ≤ 3000) := smallR_size hs
  have HY : Hid (∀ q ∈ r.att.raws, ∀ x ∈ q.2.2, x < 256) := h1.raws.bytes
  clear h1 hs
  go_enter Try.func5, Try.ntmps5
  go_wp2_with fail
  refine kept_box_intro _ _ _ (by rfl) (run_boxR _ w) ?_
  have HB0 : Hid (Below w.heap.size w (w.alloc (.cells (rtC pa pc ca cc ra rc r) 31))) := (Below.refl _ _).alloc (Nat.le_refl _) _
  have HX0 : Hid (Bl (w.alloc (.cells (rtC pa pc ca cc ra rc r) 31)) w.heap.size (rtC pa pc ca cc ra rc r)) := Bl.new w _
  generalize w.alloc (.cells (rtC pa pc ca cc ra rc r) 31) = w0 at *
  go_wp2_with fail
  refine kept_load_intro _ _ _ (by rfl) (run_loadR HX0.out (RC.rt _ _ _ _ _ _ _)) ?_
  go_wp2_with fail
  refine (small_is w0 hba (HR1.out.below HB0.out) HS.out).mono ?_
  rintro e wB ⟨rfl, hb1⟩
  have HB1 : Hid (Below w.heap.size w wB) := HB0.out.trans (hb1.mono HB0.out.size)
  have HX1 := hide (HX0.out.below hb1)
  clear hb1 HX0 HB0 HS
  go_wp2_with fail
  refine region_held (fun W => Bl W w.heap.size (rtC pa pc ca cc ra rc r)) (by kernel_rfl) ?_
  have hXd : Bl wB.drew w.heap.size (rtC pa pc ca cc ra rc r) := HX1.out.below (Below.refl _ _).drew
  refine take_slot (i := 0) (d := 14) (v := .agg (rtC pa pc ca cc ra rc r)) (by rfl) rfl rfl (by kernel_rfl) (by kernel_rfl) (by kernel_rfl) noPanicQ (fun w9 h9 => exec_loadR (by rfl) h9 (RC.rt _ _ _ _ _ _ _)) hXd ?_
  refine take_slot (i := 2) (d := 16) (v := .agg (rtC pa pc ca cc ra rc r)) (by rfl) rfl rfl (by kernel_rfl) (by kernel_rfl) (by kernel_rfl) noPanicQ (fun w9 h9 => exec_loadR (by rfl) h9 (RC.rt _ _ _ _ _ _ _)) hXd ?_
  refine own_chain _ wB wB.drew r pa pc ca cc ra rc w.heap.size ⟨_, _, _, rfl⟩ ⟨_, _, _, rfl⟩ ⟨_, _, _, rfl⟩ ⟨_, _, _, rfl⟩ ⟨_, _, _, rfl⟩ ⟨_, _, _, rfl⟩ (fun A N => by cases A <;> cases N <;> kernel_rfl) (fun A N => by cases A <;> cases N <;> kernel_rfl) (fun A N h => by cases A <;> cases N <;> first | (cases h; done) | kernel_rfl) (by kernel_rfl) (by kernel_rfl) (by kernel_rfl) (by rfl) HX1.out (HR1.out.below HB1.out) (by have := HZ.out; omega) ?_ ⟨Fr.refl _ _, by rfl, by rfl, (Below.refl _ _).drew, fun _ e => (by cases e), fun _ e => (by cases e), fun _ _ e => (by cases e)⟩
  intro gA gN a W w1 pa1 pc1 ca1 cc1 ra1 rc1 B2 w2 pa2 pc2 ca2 cc2 ra2 rc2 hfr p3 p4 p14 p15 p16 p17 gA1 gN1 bA bN ho1 ht1 hB2 ho2 ht2 hbW
  have hlit := Fr.eq (l := [(3, _), (4, _), (14, _), (15, _), (16, _), (17, _)]) rfl hfr.defers hfr.size hfr.out (fun p hp => by
    simp only [List.mem_cons, List.not_mem_nil, or_false] at hp
    rcases hp with rfl | rfl | rfl | rfl | rfl | rfl
    · exact p3
    · exact p4
    · exact p14
    · exact p15
    · exact p16
    · exact p17)
  rw [hlit]
  clear hlit hfr p3 p4 p14 p15 p16 p17 hXd
  refine ⟨fun _ h => (by cases h), ?_⟩
  simp only [List.foldl_cons, List.foldl_nil, Act.put, List.setIfInBounds_toArray, List.set_cons_zero, List.set_cons_succ]
  have hXW : Bl W w.heap.size (rtC pa pc ca cc ra rc r) := HX1.out.below hbW
  have hXB := HX1.out.lt
  -- what the loops turn
  have HTA : Hid (¬ Turn wB.heap.size w1.heap.size gA gN gA) := fun h => h.2.2.1 rfl
  have HTN : Hid (¬ Turn wB.heap.size w1.heap.size gA gN gN) := fun h => h.2.2.2 rfl
  have HTX : Hid (¬ Turn wB.heap.size w1.heap.size gA gN w.heap.size) := fun h => by have := h.1; omega
  have HLA : Hid (∀ Wq, LK wB.heap.size w1.heap.size gA gN W Wq → Bl Wq gA (rtC pa1 pc1 ca1 cc1 ra1 rc1 r)) := fun Wq h => h.bl bA HTA.out
  have HEND : Hid (∀ Wq, LK wB.heap.size w1.heap.size gA gN W Wq → Bl Wq gN (rtC pa2 pc2 ca2 cc2 ra2 rc2 r) ∧ Bl Wq w.heap.size (rtC pa pc ca cc ra rc r) ∧ AtRd Wq pa2 ca2 ra2 r.att ∧ AtRd Wq pa ca ra r.att ∧ Below w.heap.size w Wq) := fun Wq h => by
    have hb : Below wB.heap.size wB Wq := hbW.trans (h.keeps.below wB.heap.size hbW.size (fun b hb => hb.1))
    refine ⟨h.bl bN HTN.out, h.bl hXW HTX.out, ?_, HR1.out.below (HB1.out.trans (hb.mono HB1.out.size)), HB1.out.trans (hb.mono HB1.out.size)⟩
    exact ((ho2.tb ht2).keeps h.keeps (fun b h1 h2 => by have := h2.2.1; omega)).rd (by have := HZ.out; omega) HR1.out.next HY.out
  have HPT : Hid (∀ i (hi : i < r.att.path.length), ∃ G a' c', pa1 = some ⟨G, 0, none⟩ ∧ W.cell? ⟨G, i * 2 + 1, none⟩ = some (.slice a' (r.att.path[i]).2.length c') ∧ ∀ k, k < (r.att.path[i]).2.length → ∃ g z, a' = some ⟨g, 0, none⟩ ∧ Turn wB.heap.size w1.heap.size gA gN g ∧ W.cell? ⟨g, k, none⟩ = some (.int .i64 z) ∧ W.frozen? ⟨g, k, none⟩ = false) := fun i hi => by
    obtain ⟨G, a', c', h1, h2, h3⟩ := path_at ho1.path rfl ht1 i hi
    refine ⟨G, a', c', h1, h2, fun k hk => ?_⟩
    obtain ⟨g, z, q1, q2, q3, q4, q5, q6⟩ := h3 k hk
    exact ⟨g, z, q1, ⟨q2, q3, q6 _ _ bA, q6 _ _ bN⟩, q4, q5⟩
  have HRT : Hid (∀ i (hi : i < r.att.raws.length), ∃ G a' c', ra1 = some ⟨G, 0, none⟩ ∧ W.cell? ⟨G, i * 3 + 2, none⟩ = some (.slice a' (r.att.raws[i]).2.2.length c') ∧ ∀ k, k < (r.att.raws[i]).2.2.length → ∃ g z, a' = some ⟨g, 0, none⟩ ∧ Turn wB.heap.size w1.heap.size gA gN g ∧ W.cell? ⟨g, k, none⟩ = some (.int .u8 z) ∧ W.frozen? ⟨g, k, none⟩ = false) := fun i hi => by
    obtain ⟨G, a', c', h1, h2, h3⟩ := raws_at ho1.raws rfl ht1 i hi
    refine ⟨G, a', c', h1, h2, fun k hk => ?_⟩
    obtain ⟨g, z, q1, q2, q3, q4, q5, q6⟩ := h3 k hk
    exact ⟨g, z, q1, ⟨q2, q3, q6 _ _ bA, q6 _ _ bN⟩, q4, q5⟩
  have HCT : Hid (∀ k, k < r.att.comms.length → ∃ g z, ca1 = some ⟨g, 0, none⟩ ∧ Turn wB.heap.size w1.heap.size gA gN g ∧ W.cell? ⟨g, k, none⟩ = some (.int .u32 z) ∧ W.frozen? ⟨g, k, none⟩ = false) := fun k hk => by
    obtain ⟨g, z, q1, q2, q3, q4, q5, q6⟩ := comms_at ho1.comms rfl ht1 k hk
    exact ⟨g, z, q1, ⟨q2, q3, q6 _ _ bA, q6 _ _ bN⟩, q4, q5⟩
  have HQ4 : Hid ((rtC pa1 pc1 ca1 cc1 ra1 rc1 r)[4]? = some (.slice pa1 r.att.path.length pc1)) := rfl
  have HQ8 : Hid ((rtC pa1 pc1 ca1 cc1 ra1 rc1 r)[8]? = some (.slice ca1 r.att.comms.length cc1)) := rfl
  have HQ9 : Hid ((rtC pa1 pc1 ca1 cc1 ra1 rc1 r)[9]? = some (.slice ra1 r.att.raws.length rc1)) := rfl
  have HPL : Hid (∀ i (hi : i < r.att.path.length), (r.att.path[i]).2.length ≤ 3000) := fun i hi => by have := sumP_mem r.att.path _ (List.getElem_mem hi); have := HZ.out; unfold sizeA at this; omega
  have HRL : Hid (∀ i (hi : i < r.att.raws.length), (r.att.raws[i]).2.2.length ≤ 3000) := fun i hi => by have := sumR_mem r.att.raws _ (List.getElem_mem hi); have := HZ.out; unfold sizeA at this; omega
  have hn1 : r.att.path.length ≤ 3000 := by have := HZ.out; unfold sizeA at this; omega
  have hn2 : r.att.comms.length ≤ 3000 := by have := HZ.out; unfold sizeA at this; omega
  have hn3 : r.att.raws.length ≤ 3000 := by have := HZ.out; unfold sizeA at this; omega
  clear ho1 ht1 ho2 ht2 hB2 hbW hXW bA bN gA1 gN1 HTA HTN HTX
  generalize hnp : r.att.path.length = np at HQ4 hn1
  generalize hnc : r.att.comms.length = nc at HQ8 hn2 HCT
  generalize hnr : r.att.raws.length = nr at HQ9 hn3
  have HNP := hide hnp
  have HNR := hide hnr
  clear hnp hnc hnr
  generalize rtC pa1 pc1 ca1 cc1 ra1 rc1 r = C1 at *
  have HLK0 := hide (LK.refl wB.heap.size w1.heap.size gA gN W)
  go_wp2_with fail
  go_loopw [5, 6] (fun i j wq => ∃ k : Nat, k ≤ np ∧ i = .int .i64 k ∧ Hid (LK wB.heap.size w1.heap.size gA gN W wq)) (fun i _ _ => np - (intOf i).toNat)
  case atStart => exact ⟨0, Nat.zero_le _, rfl, HLK0⟩
  case round =>
    clear HLK0
    obtain ⟨k, hk, rfl, HLK⟩ := hrel
    have c4 : wr.cell? ⟨gA, 4, none⟩ = some (.slice pa1 np pc1) := (HLA.out wr HLK.out).cell 4 HQ4.out
    have zA := (HLA.out wr HLK.out).lt
    by_cases hlt : k < np
    · have hkp : k < r.att.path.length := by rw [HNP.out]; exact hlt
      obtain ⟨G, a', c', rfl, e1, e2⟩ := HPT.out k hkp
      have hll := HPL.out k hkp
      have HE2 := hide e2
      have HE1 := hide e1
      clear e1 e2
      generalize (r.att.path[k]).2.length = l at *
      have hk0 : (0 : Int) ≤ (k : Int) := Int.natCast_nonneg _
      have hk1 : (k : Int) < (np : Int) := by omega
      obtain ⟨wo, hwo⟩ : ∃ wo : World, wo = wr := ⟨_, rfl⟩
      subst hwo
      go_wp2_with fail
      go_loopw [6] (fun j wq => ∃ q : Nat, q ≤ l ∧ j = .int .i64 q ∧ Hid (LK wB.heap.size w1.heap.size gA gN W wq)) (fun j _ => l - (intOf j).toNat)
      case atStart => exact ⟨0, Nat.zero_le _, rfl, HLK⟩
      case round =>
        clear HLK c4 zA
        obtain ⟨q, hq, rfl, HLK⟩ := hrel
        have c4 : wr.cell? ⟨gA, 4, none⟩ = some (.slice (some ⟨G, 0, none⟩) np pc1) := (HLA.out wr HLK.out).cell 4 HQ4.out
        have zA := (HLA.out wr HLK.out).lt
        have d1 : wr.cell? ⟨G, k * 2 + 1, none⟩ = some (.slice a' l c') := HLK.out.like.slice HE1.out
        have zG := World.block_lt_of_cell? wr _ d1
        simp only at zG
        by_cases hql : q < l
        · obtain ⟨g, z, rfl, hT, g1, g2⟩ := HE2.out q hql
          obtain ⟨y, g3⟩ := HLK.out.like.int g1
          have g4 : wr.frozen? ⟨g, q, none⟩ = false := by rw [HLK.out.like.frozen]; exact g2
          have zg := World.block_lt_of_cell? wr _ g3
          simp only at zg
          have HN : Hid (∀ y', LK wB.heap.size w1.heap.size gA gN W (wr.setCell ⟨g, q, none⟩ (.int .i64 y'))) := fun y' => HLK.out.set hT g3 y'
          have hq0 : (0 : Int) ≤ (q : Int) := Int.natCast_nonneg _
          have hq1 : (q : Int) < (l : Int) := by omega
          clear g1 g2 hT
          go_wp2
          exact ⟨⟨q + 1, by omega, by go_num, HN.out _⟩, by simp [intOf]; omega⟩
        · have hq1 : decide ((q : Int) < (l : Int)) = false := decide_eq_false (by omega)
          go_wp2
          exact ⟨⟨k + 1, by omega, by go_num, HLK⟩, by simp [intOf]; omega⟩
    · have hk1 : decide ((k : Int) < (np : Int)) = false := decide_eq_false (by omega)
      have HLKa := HLK
      clear HLK
      go_wp2_with fail
      clear c4 zA hk1 hlt hk
      go_loopw [7] (fun i wq => ∃ k : Nat, k ≤ nc ∧ i = .int .i64 k ∧ Hid (LK wB.heap.size w1.heap.size gA gN W wq)) (fun i _ => nc - (intOf i).toNat)
      case atStart => exact ⟨0, Nat.zero_le _, rfl, HLKa⟩
      case round =>
        clear HLKa
        obtain ⟨k, hk, rfl, HLK⟩ := hrel
        have c8 : wr.cell? ⟨gA, 8, none⟩ = some (.slice ca1 nc cc1) := (HLA.out wr HLK.out).cell 8 HQ8.out
        have zA := (HLA.out wr HLK.out).lt
        by_cases hlt : k < nc
        · obtain ⟨g, z, rfl, hT, g1, g2⟩ := HCT.out k hlt
          obtain ⟨y, g3⟩ := HLK.out.like.int g1
          have g4 : wr.frozen? ⟨g, k, none⟩ = false := by rw [HLK.out.like.frozen]; exact g2
          have zg := World.block_lt_of_cell? wr _ g3
          simp only at zg
          have HN : Hid (∀ y', LK wB.heap.size w1.heap.size gA gN W (wr.setCell ⟨g, k, none⟩ (.int .u32 y'))) := fun y' => HLK.out.set hT g3 y'
          have hk0 : (0 : Int) ≤ (k : Int) := Int.natCast_nonneg _
          have hk1 : (k : Int) < (nc : Int) := by omega
          clear g1 g2 hT
          go_wp2
          exact ⟨⟨k + 1, by omega, by go_num, HN.out _⟩, by simp [intOf]; omega⟩
        · have hk1 : decide ((k : Int) < (nc : Int)) = false := decide_eq_false (by omega)
          have HLKb := HLK
          clear HLK
          go_wp2_with fail
          clear c8 zA hk1 hlt hk
          go_loopw [8, 9] (fun i j wq => ∃ k : Nat, k ≤ nr ∧ i = .int .i64 k ∧ Hid (LK wB.heap.size w1.heap.size gA gN W wq)) (fun i _ _ => nr - (intOf i).toNat)
          case atStart => exact ⟨0, Nat.zero_le _, rfl, HLKb⟩
          case round =>
            clear HLKb
            obtain ⟨k, hk, rfl, HLK⟩ := hrel
            have c9 : wr.cell? ⟨gA, 9, none⟩ = some (.slice ra1 nr rc1) := (HLA.out wr HLK.out).cell 9 HQ9.out
            have zA := (HLA.out wr HLK.out).lt
            by_cases hlt : k < nr
            · have hkp : k < r.att.raws.length := by rw [HNR.out]; exact hlt
              obtain ⟨G, a', c', rfl, e1, e2⟩ := HRT.out k hkp
              have hll := HRL.out k hkp
              have HE2 := hide e2
              have HE1 := hide e1
              clear e1 e2
              generalize (r.att.raws[k]).2.2.length = l at *
              have hk0 : (0 : Int) ≤ (k : Int) := Int.natCast_nonneg _
              have hk1 : (k : Int) < (nr : Int) := by omega
              obtain ⟨wo, hwo⟩ : ∃ wo : World, wo = wr := ⟨_, rfl⟩
              subst hwo
              go_wp2_with fail
              go_loopw [9] (fun j wq => ∃ q : Nat, q ≤ l ∧ j = .int .i64 q ∧ Hid (LK wB.heap.size w1.heap.size gA gN W wq)) (fun j _ => l - (intOf j).toNat)
              case atStart => exact ⟨0, Nat.zero_le _, rfl, HLK⟩
              case round =>
                clear HLK c9 zA
                obtain ⟨q, hq, rfl, HLK⟩ := hrel
                have c9 : wr.cell? ⟨gA, 9, none⟩ = some (.slice (some ⟨G, 0, none⟩) nr rc1) := (HLA.out wr HLK.out).cell 9 HQ9.out
                have zA := (HLA.out wr HLK.out).lt
                have d1 : wr.cell? ⟨G, k * 3 + 2, none⟩ = some (.slice a' l c') := HLK.out.like.slice HE1.out
                have zG := World.block_lt_of_cell? wr _ d1
                simp only at zG
                by_cases hql : q < l
                · obtain ⟨g, z, rfl, hT, g1, g2⟩ := HE2.out q hql
                  obtain ⟨y, g3⟩ := HLK.out.like.int g1
                  have g4 : wr.frozen? ⟨g, q, none⟩ = false := by rw [HLK.out.like.frozen]; exact g2
                  have zg := World.block_lt_of_cell? wr _ g3
                  simp only at zg
                  have HN : Hid (∀ y', LK wB.heap.size w1.heap.size gA gN W (wr.setCell ⟨g, q, none⟩ (.int .u8 y'))) := fun y' => HLK.out.set hT g3 y'
                  have hq0 : (0 : Int) ≤ (q : Int) := Int.natCast_nonneg _
                  have hq1 : (q : Int) < (l : Int) := by omega
                  clear g1 g2 hT
                  go_wp2
                  exact ⟨⟨q + 1, by omega, by go_num, HN.out _⟩, by simp [intOf]; omega⟩
                · have hq1 : decide ((q : Int) < (l : Int)) = false := decide_eq_false (by omega)
                  go_wp2
                  exact ⟨⟨k + 1, by omega, by go_num, HLK⟩, by simp [intOf]; omega⟩
            · have hk1 : decide ((k : Int) < (nr : Int)) = false := decide_eq_false (by omega)
              obtain ⟨n1, n2, n3, n4, n5⟩ := HEND.out wr HLK.out
              have N1 := hide n1
              have N2 := hide n2
              have N3 := hide n3
              have N4 := hide n4
              have N5 := hide n5
              clear n1 n2 n3 n4 n5
              go_wp2_with fail
              refine (answers_any wr).mono ?_
              rintro e w11 ⟨rfl, hb11⟩
              have M1 := hide (N1.out.below hb11)
              have M2 := hide (N2.out.below hb11)
              have M3 := hide (N3.out.below hb11)
              have M4 := hide (N4.out.below hb11)
              have M5 : Hid (Below w.heap.size w w11) := N5.out.trans (hb11.mono N5.out.size)
              clear hb11 N1 N2 N3 N4 N5 c9 zA
              go_wp2_with fail
              refine kept_load_intro _ _ _ (by rfl) (run_loadR M1.out (RC.rt _ _ _ _ _ _ _)) ?_
              go_wp2_with fail
              refine kept_load_intro _ _ _ (by rfl) (run_loadR M2.out (RC.rt _ _ _ _ _ _ _)) ?_
              go_wp2_with fail
              refine (samer_any pa2 pc2 ca2 cc2 ra2 rc2 pa pc ca cc ra rc r r w11 (by have := HZ.out; omega) (by have := HZ.out; omega) M3.out M4.out).mono ?_
              rw [eqRt_self]
              rintro e w12 ⟨rfl, hb12⟩
              have HB12 : Hid (Below w.heap.size w w12) := M5.out.trans (hb12.mono M5.out.size)
              clear hb12
              go_wp2
              go_ret
              exact ⟨rfl, HB12.out⟩
end
theorem routeOwn_walk (pa : Option Addr) (pc : Nat) (ca : Option Addr) (cc : Nat) (ra : Option Addr) (rc : Nat) (r : Rt) (w : World) (hba : BigR r) (h1 : AtRd w pa ca ra r.att) :
    Calls Try.prog 5 #[rtV pa pc ca cc ra rc r] w fun e w' => e = .returned (.bool true) ∧ Below w.heap.size w w' := by
  cases hs : smallR r with
  | false => exact own_great pa pc ca cc ra rc r w hba h1 hs
  | true => exact own_small pa pc ca cc ra rc r w hba h1 hs
end Go.Proofs.Ytnblkgffgbiemaa
