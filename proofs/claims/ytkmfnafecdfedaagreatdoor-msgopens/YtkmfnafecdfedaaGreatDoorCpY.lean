/- The document's Caps. -/
import Derived.Test.YtkmfnafecdfedaaGreatDoorCpX
import Derived.Test.YtkmfnafecdfedaaGreatDoorCpG
import Derived.Test.YtkmfnafecdfedaaGreatDoorNumF
import Derived.Deep.RegionWith
import Derived.Deep.DrawnRows
import Derived.Deep.DeepCutAuto
namespace Go.Proofs.YtkmfnafecdfedaaGreatDoor
open Go.RowKit
set_option maxRecDepth 100000

/-- Bytes that lie at place k of block g, behind a row of the call's own. -/
theorem app_lit {W : World} {B : Nat} {v : Value} {bs : List Nat} (ho : W.ownsRow B 5 1 v bs.length (bcells bs)) (hB : B ≤ W.heap.size) (ys : List Nat) (g k m c : Nat) (hm : ys.length = m) (hc : ∀ (j x : Nat), ys[j]? = some x → W.cell? ⟨g, k + j, none⟩ = some (.int .u8 (x : Int))) (hl : bs.length + m ≤ 1000) :
    ∃ v' w', (Builtin.append_ #[22, 22] 22 #[v, .slice (some ⟨g, k, none⟩) m c]).run Tryz.prog W = .ok v' w' ∧ w'.ownsRow B 5 1 v' (bs ++ ys).length (bcells (bs ++ ys)) ∧ Below B W w' ∧ ∀ X, X < W.heap.size → v.ownBlock ≠ some X → w'.heap[X]? = W.heap[X]? := by
  obtain ⟨v', w', hr, h2, h3, h4, _⟩ := app_more elemU8 ho hB ⟨g, k, none⟩ m c (bcells ys) (by rw [bcells_length]; omega) (fun j u hu => by
    have hj : j < ys.length := by have := (List.getElem?_eq_some_iff.1 hu).1; rwa [bcells_length] at this
    rw [Addr.add_mid, hc j ys[j] (List.getElem?_eq_getElem hj), ← hu]
    simp [bcells, hj]) (bcells_one _) (by omega)
  exact ⟨v', w', hr, by rw [bcells_app, List.length_append, hm]; exact h2, h3, fun X hX hne => h4.block X hX (Ne.symm hne)⟩
/-- The cells of a new row. -/
theorem lit_cells (W : World) (ys : List Nat) (j x : Nat) (h : ys[j]? = some x) : (W.alloc (.cells (bcells ys).toArray 5)).cell? ⟨W.heap.size, j, none⟩ = some (.int .u8 (x : Int)) := by
  rw [World.cell?_alloc_mark]
  simp [bcells, h]
/-- What is wanted of two appends behind one another. -/
def Two (B : Nat) (w1 : World) (out : List Nat) (v2 : Value) (w2 : World) : Prop := w2.ownsRow B 5 1 v2 out.length (bcells out) ∧ Below B w1 w2
theorem ord_a {w1 : World} {B : Nat} {v : Value} {bs : List Nat} (ho : w1.ownsRow B 5 1 v bs.length (bcells bs)) (hB : B ≤ w1.heap.size) (ys zs : List Nat) (k m1 m2 : Nat) (hm1 : ys.length = m1) (hm2 : (zs.drop k).length = m2) (hl : bs.length + m1 + m2 ≤ 1000) :
    ∃ v1 wa, (Builtin.append_ #[22, 22] 22 #[v, .slice (some ⟨w1.heap.size, 0, none⟩) m1 m1]).run Tryz.prog (w1.alloc (.cells (bcells ys).toArray 5)).drew = .ok v1 wa ∧ Below B w1 wa ∧
      ∃ v2 w2, (Builtin.append_ #[22, 22] 22 #[v1, .slice (some ⟨wa.heap.size, k, none⟩) m2 m2]).run Tryz.prog (wa.alloc (.cells (bcells zs).toArray 5)) = .ok v2 w2 ∧ Two B w1 (bs ++ (ys ++ zs.drop k)) v2 w2 := by
  have hb0 : Below B w1 (w1.alloc (.cells (bcells ys).toArray 5)).drew := ((Below.refl _ _).alloc hB _).drew
  obtain ⟨v1, wa, hr1, ho1, hb1, _⟩ := app_lit (W := (w1.alloc (.cells (bcells ys).toArray 5)).drew) ((ho.alloc _).drew) (Nat.le_trans hB hb0.size) ys w1.heap.size 0 m1 m1 hm1 (fun j x h => by rw [Nat.zero_add, World.cell?_drew]; exact lit_cells w1 ys j x h) (by omega)
  have hB1 : B ≤ wa.heap.size := Nat.le_trans (Nat.le_trans hB hb0.size) hb1.size
  have hb2 : Below B wa (wa.alloc (.cells (bcells zs).toArray 5)) := (Below.refl _ _).alloc hB1 _
  obtain ⟨v2, w2, hr2, ho2, hb3, _⟩ := app_lit (W := wa.alloc (.cells (bcells zs).toArray 5)) (ho1.alloc _) (Nat.le_trans hB1 hb2.size) (zs.drop k) wa.heap.size k m2 m2 hm2 (fun j x h => lit_cells wa zs (k + j) x (by rw [List.getElem?_drop] at h; exact h)) (by rw [List.length_append]; omega)
  exact ⟨v1, wa, hr1, hb0.trans hb1, v2, w2, hr2, by rw [← List.append_assoc]; exact ho2, (hb0.trans hb1).trans (hb2.trans hb3)⟩
theorem ord_b {w1 : World} {B : Nat} {v : Value} {bs : List Nat} (ho : w1.ownsRow B 5 1 v bs.length (bcells bs)) (hB : B ≤ w1.heap.size) (ys zs : List Nat) (k m1 m2 : Nat) (hm1 : ys.length = m1) (hm2 : (zs.drop k).length = m2) (hl : bs.length + m1 + m2 ≤ 1000) :
    ∃ v1 wa, (Builtin.append_ #[22, 22] 22 #[v, .slice (some ⟨w1.heap.size, 0, none⟩) m1 m1]).run Tryz.prog ((w1.alloc (.cells (bcells ys).toArray 5)).alloc (.cells (bcells zs).toArray 5)).drew = .ok v1 wa ∧
      ∃ v2 w2, (Builtin.append_ #[22, 22] 22 #[v1, .slice (some ⟨w1.heap.size + 1, k, none⟩) m2 m2]).run Tryz.prog wa = .ok v2 w2 ∧ Two B w1 (bs ++ (ys ++ zs.drop k)) v2 w2 := by
  obtain ⟨wl, hwl⟩ : ∃ wl, wl = w1.alloc (.cells (bcells ys).toArray 5) := ⟨_, rfl⟩
  have hwls : wl.heap.size = w1.heap.size + 1 := by rw [hwl]; simp
  have hbl : Below B w1 wl := by rw [hwl]; exact (Below.refl _ _).alloc hB _
  rw [← hwl]
  have hb0 : Below B w1 (wl.alloc (.cells (bcells zs).toArray 5)).drew := (hbl.trans ((Below.refl _ _).alloc (by omega) _)).drew
  have hol : wl.ownsRow B 5 1 v bs.length (bcells bs) := by rw [hwl]; exact ho.alloc _
  obtain ⟨v1, wa, hr1, ho1, hb1, hk1⟩ := app_lit (W := (wl.alloc (.cells (bcells zs).toArray 5)).drew) ((hol.alloc _).drew) (Nat.le_trans hB hb0.size) ys w1.heap.size 0 m1 m1 hm1 (fun j x h => by
    rw [Nat.zero_add, World.cell?_drew, World.cell?_alloc_lt _ _ _ (by show w1.heap.size < _; omega), hwl]; exact lit_cells w1 ys j x h) (by omega)
  have hB1 : B ≤ wa.heap.size := Nat.le_trans (Nat.le_trans hB hb0.size) hb1.size
  obtain ⟨v2, w2, hr2, ho2, hb3, _⟩ := app_lit ho1 hB1 (zs.drop k) (w1.heap.size + 1) k m2 m2 hm2 (fun j x h => by
    rw [World.cell?_of_block (w := (wl.alloc (.cells (bcells zs).toArray 5)).drew) (hk1 (w1.heap.size + 1) (by show _ < (wl.alloc _).heap.size; simp; omega) (fun e => by have := (own_block ho _ e).2; omega)), World.cell?_drew, ← hwls]
    exact lit_cells wl zs (k + j) x (by rw [List.getElem?_drop] at h; exact h)) (by rw [List.length_append]; omega)
  exact ⟨v1, wa, hr1, v2, w2, hr2, by rw [← List.append_assoc]; exact ho2, hb0.trans (hb1.trans hb3)⟩
theorem ord_c {w1 : World} {B : Nat} {v : Value} {bs : List Nat} (ho : w1.ownsRow B 5 1 v bs.length (bcells bs)) (hB : B ≤ w1.heap.size) (ys zs : List Nat) (k m1 m2 : Nat) (hm1 : ys.length = m1) (hm2 : (zs.drop k).length = m2) (hl : bs.length + m1 + m2 ≤ 1000) :
    ∃ v1 wa, (Builtin.append_ #[22, 22] 22 #[v, .slice (some ⟨w1.heap.size + 1, 0, none⟩) m1 m1]).run Tryz.prog ((w1.alloc (.cells (bcells zs).toArray 5)).alloc (.cells (bcells ys).toArray 5)).drew = .ok v1 wa ∧
      ∃ v2 w2, (Builtin.append_ #[22, 22] 22 #[v1, .slice (some ⟨w1.heap.size, k, none⟩) m2 m2]).run Tryz.prog wa = .ok v2 w2 ∧ Two B w1 (bs ++ (ys ++ zs.drop k)) v2 w2 := by
  obtain ⟨wl, hwl⟩ : ∃ wl, wl = w1.alloc (.cells (bcells zs).toArray 5) := ⟨_, rfl⟩
  have hwls : wl.heap.size = w1.heap.size + 1 := by rw [hwl]; simp
  have hbl : Below B w1 wl := by rw [hwl]; exact (Below.refl _ _).alloc hB _
  rw [← hwl]
  have hb0 : Below B w1 (wl.alloc (.cells (bcells ys).toArray 5)).drew := (hbl.trans ((Below.refl _ _).alloc (by omega) _)).drew
  have hol : wl.ownsRow B 5 1 v bs.length (bcells bs) := by rw [hwl]; exact ho.alloc _
  obtain ⟨v1, wa, hr1, ho1, hb1, hk1⟩ := app_lit (W := (wl.alloc (.cells (bcells ys).toArray 5)).drew) ((hol.alloc _).drew) (Nat.le_trans hB hb0.size) ys (w1.heap.size + 1) 0 m1 m1 hm1 (fun j x h => by
    rw [Nat.zero_add, World.cell?_drew, ← hwls]; exact lit_cells wl ys j x h) (by omega)
  have hB1 : B ≤ wa.heap.size := Nat.le_trans (Nat.le_trans hB hb0.size) hb1.size
  obtain ⟨v2, w2, hr2, ho2, hb3, _⟩ := app_lit ho1 hB1 (zs.drop k) w1.heap.size k m2 m2 hm2 (fun j x h => by
    rw [World.cell?_of_block (w := (wl.alloc (.cells (bcells ys).toArray 5)).drew) (hk1 w1.heap.size (by show _ < (wl.alloc _).heap.size; simp; omega) (fun e => by have := (own_block ho _ e).2; omega)), World.cell?_drew, World.cell?_alloc_lt _ _ _ (by show w1.heap.size < _; omega), hwl]
    exact lit_cells w1 zs (k + j) x (by rw [List.getElem?_drop] at h; exact h)) (by rw [List.length_append]; omega)
  exact ⟨v1, wa, hr1, v2, w2, hr2, by rw [← List.append_assoc]; exact ho2, hb0.trans (hb1.trans hb3)⟩
set_option maxHeartbeats 1600000 in
theorem rcaps_bad (c : Cp) (w : World) (h : goodC c = false) : Calls Tryz.prog 52 #[capV c] w fun e w' => ∃ v, e = .returned v ∧ w'.ownsRow w.heap.size 5 1 v (encCp c).length (bcells (encCp c)) ∧ Below w.heap.size w w' := by
  have HE : Hid (encCp c = []) := by show encCp c = []; unfold encCp; rw [h]; rfl
  have HG := hide (fun W => rgoodc_any c W)
  rw [h] at HG
  generalize encCp c = ec at *
  clear h
  obtain ⟨four, as4, gr, rs, tm, fam, fwd, ll, lt⟩ := c
  unfold capV at *
  simp only at *
  go_enter Tryz.func52, Tryz.ntmps52
  go_wp2_with fail
  refine (HG.out _).mono ?_
  rintro e w1 ⟨rfl, hb1⟩
  have HB1 : Hid (Below w.heap.size w w1) := (below_new w _).trans (hb1.mono (below_new w _).size)
  clear hb1
  go_wp2
  go_ret
  exact ⟨_, rfl, by rw [HE.out]; exact own_nil _ _ _ _, HB1.out⟩
section
attribute [local go_sem ↓] Go.wp_at_zero Go.wp_at_succ kept_append
set_option maxHeartbeats 3200000 in
theorem rcaps_good (c : Cp) (w : World) (h : goodC c = true) : Calls Tryz.prog 52 #[capV c] w fun e w' => ∃ v, e = .returned v ∧ w'.ownsRow w.heap.size 5 1 v (encCp c).length (bcells (encCp c)) ∧ Below w.heap.size w w' := by
  have HE : Hid (encCp c = if encIn c = [] then [] else tlv 2 (encIn c)) := by show encCp c = _; unfold encCp; rw [if_pos h]
  have HG := hide (fun W => rgoodc_any c W)
  rw [h] at HG
  obtain ⟨wB, hwB⟩ : ∃ wB, wB = w.alloc (.cells (capC c) 26) := ⟨_, rfl⟩
  have hBw : Below w.heap.size w wB := by rw [hwB]; exact below_new _ _
  have hBs : wB.heap.size = w.heap.size + 1 := by rw [hwB]; simp
  have HX : Hid (∀ X, Below wB.heap.size wB X → BoxC X w.heap.size c) := fun X hb => by
    have h1 : BoxC wB w.heap.size c := by rw [hwB]; exact BoxC.new w c
    exact h1.block (hb.block _ (by omega))
  obtain ⟨hp1, hp2, hp3⟩ := goodC_parts h
  obtain ⟨e4, h4⟩ : ∃ x, x = eFour c := ⟨_, rfl⟩
  obtain ⟨eg, hg⟩ : ∃ x, x = eGR c := ⟨_, rfl⟩
  obtain ⟨el, hll⟩ : ∃ x, x = eLL c := ⟨_, rfl⟩
  obtain ⟨ei, hei⟩ : ∃ x, x = encIn c := ⟨_, rfl⟩
  obtain ⟨ec, hec⟩ : ∃ x, x = encCp c := ⟨_, rfl⟩
  have HIN : Hid (ei = e4 ++ (eg ++ el)) := by show ei = _; rw [hei, h4, hg, hll]; rfl
  have H4 : Hid (∀ n : Nat, c.four = true → c.as4 = (n : Int) → e4 = [] ++ ([65, 4] ++ ((List.range 4).map (byteAt n)).drop 0)) := fun n hf ha => by
    show e4 = _
    rw [h4]; unfold eFour; rw [if_pos hf]; unfold vFour; rw [ha]; rfl
  have H40 : Hid (c.four = false → e4 = []) := fun hf => by show e4 = []; rw [h4]; unfold eFour; rw [hf]; rfl
  have HL40 : Hid (el = if c.ll then 71 :: 7 :: vLL c else []) := by
    show el = _
    rw [hll]
    unfold eLL tlv
    rw [vLL_length]
  have HL4 : Hid (e4.length ≤ 6) := by show _ ≤ _; rw [h4, eFour_length]; split <;> omega
  have HLG : Hid (eg.length ≤ 8) := by show _ ≤ _; rw [hg]; exact eGR_length c
  have HLL : Hid (∀ n : Nat, c.ll = true → c.lt = (n : Int) → el = [71, 7, 0, 1, 1, 0] ++ ((List.range 4).map (byteAt n)).drop 1) := fun n hf ha => by
    show el = _
    rw [HL40.out, if_pos hf]; unfold vLL; rw [ha]; rfl
  have HLL0 : Hid (c.ll = false → el = []) := fun hf => by show el = []; rw [hll]; unfold eLL; rw [hf]; rfl
  have HGG : Hid (∀ T : Nat, c.gr = true → c.tm = (T : Int) → T ≤ 4095 → eg = (if c.fam then [64, 6, (T + if c.rs then 32768 else 0) / 256, (T + if c.rs then 32768 else 0) % 256, 0, 1, 1, if c.fwd then 128 else 0] else [64, 2, (T + if c.rs then 32768 else 0) / 256, (T + if c.rs then 32768 else 0) % 256])) := fun T hf ha _ => by
    show eg = _
    rw [hg]; unfold eGR; rw [if_pos hf]; unfold tlv; rw [vGR_length]; unfold vGR famGR headGR; rw [ha, Int.toNat_natCast]
    split <;> rfl
  have HG0 : Hid (c.gr = false → eg = []) := fun hf => by show eg = []; rw [hg]; unfold eGR; rw [hf]; rfl
  rw [← hei, ← hec] at HE
  rw [← hec]
  have HLE : Hid (ei.length ≤ 23) := by show _ ≤ _; rw [hei]; exact encIn_length c
  have HLT : Hid (∀ x ∈ ei, x < 256) := by show ∀ x ∈ ei, x < 256; rw [hei]; exact encIn_lt h
  clear h4 hg hll hei hec h HL40
  obtain ⟨four, as4, gr, rs, tm, fam, fwd, ll, lt⟩ := c
  unfold BoxC at HX
  unfold capV at *
  unfold capC at hwB
  simp only at *
  go_enter Tryz.func52, Tryz.ntmps52
  go_wp2_with fail
  rw [← hwB]
  refine (HG.out wB).mono ?_
  rintro e w1 ⟨rfl, hb1⟩
  have HB1 := hide hb1
  obtain ⟨x0, x1, x2, x3, x4, x5, x6, x7, x8⟩ := HX.out w1 hb1
  have hH1 : w.heap.size < w1.heap.size := by have := World.block_lt_of_cell? w1 _ x0; simpa using this
  clear hb1 HG
  go_upto_if 10 with fail
  go_cut [3] (fun v wq => Hid (wq.ownsRow wB.heap.size 5 1 v e4.length (bcells e4)) ∧ Hid (Below wB.heap.size wB wq))
  case first =>
    cases four with
    | true =>
      obtain ⟨n, hn0⟩ := Int.eq_ofNat_of_zero_le (show 0 ≤ as4 by have := gFour_yes hp1 rfl; simp only at this; omega)
      have hn : n < 4294967296 := by have := gFour_yes hp1 rfl; simp only at this; omega
      have HE4 := hide (H4.out n (by trivial) hn0)
      subst hn0
      clear hp1 hp2 hp3 hwB
      have HON : Hid (w1.ownsRow wB.heap.size 5 1 (.slice none 0 0) ([] : List Nat).length (bcells [])) := own_nil _ _ _ _
      have e1 : (bcells [65, 4]).toArray = #[.int .u8 65, .int .u8 4] := rfl
      obtain ⟨va, wa, ra1, ba1, va2, wa2, ra2, ta⟩ := ord_a (bs := []) HON.out HB1.out.size [65, 4] ((List.range 4).map (byteAt n)) 0 2 4 rfl rfl (by simp)
      obtain ⟨vb, wb, rb1, vb2, wb2, rb2, tb⟩ := ord_b (bs := []) HON.out HB1.out.size [65, 4] ((List.range 4).map (byteAt n)) 0 2 4 rfl rfl (by simp)
      obtain ⟨vc, wc, rc1, vc2, wc2, rc2, tc⟩ := ord_c (bs := []) HON.out HB1.out.size [65, 4] ((List.range 4).map (byteAt n)) 0 2 4 rfl rfl (by simp)
      rw [e1] at ra1 rb1 rc1
      obtain ⟨p0, p1, p2, p3, p4, p5, p6, p7, p8⟩ := HX.out wa (HB1.out.trans ba1)
      have hpa : w.heap.size < wa.heap.size := by have := World.block_lt_of_cell? wa _ p0; simpa using this
      have RA1 := hide ra1
      have RA2 := hide ra2
      have RB1 := hide rb1
      have RB2 := hide rb2
      have RC1 := hide rc1
      have RC2 := hide rc2
      have TA := hide ta
      have TB := hide tb
      have TC := hide tc
      clear ra1 ra2 rb1 rb2 rc1 rc2 ta tb tc ba1 e1
      go_wp2_with fail
      go_region_with (first
          | (go_at_call 51; refine (four_eq n _ hn).mono ?_; rintro e w9 ⟨rfl, rfl⟩)
          | (refine kept_append_intro _ _ _ _ va (w' := wa) (by rfl) (by rfl) (by exact RA1.out) ?_)
          | (refine kept_append_intro _ _ _ _ va2 (w' := wa2) (by rfl) (by rfl) (by exact RA2.out) ?_)
          | (refine kept_append_intro _ _ _ _ vb (w' := wb) (by rfl) (by rfl) (by exact RB1.out) ?_)
          | (refine kept_append_intro _ _ _ _ vb2 (w' := wb2) (by rfl) (by rfl) (by exact RB2.out) ?_)
          | (refine kept_append_intro _ _ _ _ vc (w' := wc) (by rfl) (by rfl) (by exact RC1.out) ?_)
          | (refine kept_append_intro _ _ _ _ vc2 (w' := wc2) (by rfl) (by rfl) (by exact RC2.out) ?_))
      all_goals go_wp2
      all_goals go_meet
      all_goals first
        | exact ⟨by show World.ownsRow _ _ _ _ _ _ _; rw [HE4.out]; exact TA.out.1, HB1.out.trans TA.out.2⟩
        | exact ⟨by show World.ownsRow _ _ _ _ _ _ _; rw [HE4.out]; exact TB.out.1, HB1.out.trans TB.out.2⟩
        | exact ⟨by show World.ownsRow _ _ _ _ _ _ _; rw [HE4.out]; exact TC.out.1, HB1.out.trans TC.out.2⟩
    | false =>
      have HE4 := hide (H40.out (by trivial))
      go_wp2
      go_meet
      exact ⟨by show World.ownsRow _ _ _ _ _ _ _; rw [HE4.out]; exact own_nil _ _ _ _, HB1⟩
  case rest =>
    obtain ⟨HO2, HB2⟩ := hcut
    clear HB1 x0 x1 x2 x3 x4 x5 x6 x7 x8 H4 H40 hp1
    obtain ⟨w2, hw2⟩ : ∃ w2 : World, w2 = wc := ⟨wc, rfl⟩
    subst hw2
    obtain ⟨x0, x1, x2, x3, x4, x5, x6, x7, x8⟩ := HX.out w2 HB2.out
    have hH2 : w.heap.size < w2.heap.size := by have := World.block_lt_of_cell? w2 _ x0; simpa using this
    go_upto_if 19 with fail
    go_cut [3] (fun v wq => Hid (wq.ownsRow wB.heap.size 5 1 v (e4 ++ eg).length (bcells (e4 ++ eg))) ∧ Hid (Below wB.heap.size wB wq))
    case first =>
      cases gr with
      | true =>
        obtain ⟨h0, h1⟩ := gGR_tm hp2
        obtain ⟨T, hT⟩ := Int.eq_ofNat_of_zero_le (show 0 ≤ tm from h0)
        have hT2 : T ≤ 4095 := by simp only at h1; omega
        have HEG := hide (HGG.out T (by trivial) hT hT2)
        subst hT
        clear hp2 hp3 hwB h0 h1
        cases rs with
        | true =>
          cases fwd with
          | true =>
            cases fam with
            | true =>
              have HEQ : Hid (eg = [64, 6, (T + 32768) / 256, (T + 32768) % 256, 0, 1, 1, 128]) := HEG.out
              obtain ⟨v3, w3, hr3, ho3, hb3, _⟩ := more_bytes HO2.out HB2.out.size [64, 6, (T + 32768) / 256, (T + 32768) % 256, 0, 1, 1, 128] 8 #[.int .u8 64, .int .u8 6, .int .u8 (((T : Int) + 32768) / 256), .int .u8 (((T : Int) + 32768) % 256), .int .u8 0, .int .u8 1, .int .u8 1, .int .u8 128] rfl (by omega) (by simp [bcells]) (by have := HL4.out; omega)
              rw [← HEQ.out] at ho3
              have HR3 := hide hr3
              have HO3 := hide ho3
              have HB3 := hide (HB2.out.trans hb3)
              clear hr3 ho3 hb3
              go_wp2_with fail
              refine kept_append_intro _ _ _ (.slice (some ⟨w2.heap.size, 0, none⟩) 8 8) v3 (w' := w3) (by rfl) (by rfl) (by exact HR3.out) ?_
              go_wp2
              go_meet
              exact ⟨HO3, HB3⟩
            | false =>
              have HEQ : Hid (eg = [64, 2, (T + 32768) / 256, (T + 32768) % 256]) := HEG.out
              obtain ⟨v3, w3, hr3, ho3, hb3, _⟩ := more_bytes HO2.out HB2.out.size [64, 2, (T + 32768) / 256, (T + 32768) % 256] 4 #[.int .u8 64, .int .u8 2, .int .u8 (((T : Int) + 32768) / 256), .int .u8 (((T : Int) + 32768) % 256)] rfl (by omega) (by simp [bcells]) (by have := HL4.out; omega)
              rw [← HEQ.out] at ho3
              have HR3 := hide hr3
              have HO3 := hide ho3
              have HB3 := hide (HB2.out.trans hb3)
              clear hr3 ho3 hb3
              go_wp2_with fail
              refine kept_append_intro _ _ _ (.slice (some ⟨w2.heap.size, 0, none⟩) 4 4) v3 (w' := w3) (by rfl) (by rfl) (by exact HR3.out) ?_
              go_wp2
              go_meet
              exact ⟨HO3, HB3⟩
          | false =>
            cases fam with
            | true =>
              have HEQ : Hid (eg = [64, 6, (T + 32768) / 256, (T + 32768) % 256, 0, 1, 1, 0]) := HEG.out
              obtain ⟨v3, w3, hr3, ho3, hb3, _⟩ := more_bytes HO2.out HB2.out.size [64, 6, (T + 32768) / 256, (T + 32768) % 256, 0, 1, 1, 0] 8 #[.int .u8 64, .int .u8 6, .int .u8 (((T : Int) + 32768) / 256), .int .u8 (((T : Int) + 32768) % 256), .int .u8 0, .int .u8 1, .int .u8 1, .int .u8 0] rfl (by omega) (by simp [bcells]) (by have := HL4.out; omega)
              rw [← HEQ.out] at ho3
              have HR3 := hide hr3
              have HO3 := hide ho3
              have HB3 := hide (HB2.out.trans hb3)
              clear hr3 ho3 hb3
              go_wp2_with fail
              refine kept_append_intro _ _ _ (.slice (some ⟨w2.heap.size, 0, none⟩) 8 8) v3 (w' := w3) (by rfl) (by rfl) (by exact HR3.out) ?_
              go_wp2
              go_meet
              exact ⟨HO3, HB3⟩
            | false =>
              have HEQ : Hid (eg = [64, 2, (T + 32768) / 256, (T + 32768) % 256]) := HEG.out
              obtain ⟨v3, w3, hr3, ho3, hb3, _⟩ := more_bytes HO2.out HB2.out.size [64, 2, (T + 32768) / 256, (T + 32768) % 256] 4 #[.int .u8 64, .int .u8 2, .int .u8 (((T : Int) + 32768) / 256), .int .u8 (((T : Int) + 32768) % 256)] rfl (by omega) (by simp [bcells]) (by have := HL4.out; omega)
              rw [← HEQ.out] at ho3
              have HR3 := hide hr3
              have HO3 := hide ho3
              have HB3 := hide (HB2.out.trans hb3)
              clear hr3 ho3 hb3
              go_wp2_with fail
              refine kept_append_intro _ _ _ (.slice (some ⟨w2.heap.size, 0, none⟩) 4 4) v3 (w' := w3) (by rfl) (by rfl) (by exact HR3.out) ?_
              go_wp2
              go_meet
              exact ⟨HO3, HB3⟩
        | false =>
          cases fwd with
          | true =>
            cases fam with
            | true =>
              have HEQ : Hid (eg = [64, 6, T / 256, T % 256, 0, 1, 1, 128]) := HEG.out
              obtain ⟨v3, w3, hr3, ho3, hb3, _⟩ := more_bytes HO2.out HB2.out.size [64, 6, T / 256, T % 256, 0, 1, 1, 128] 8 #[.int .u8 64, .int .u8 6, .int .u8 ((T : Int) / 256), .int .u8 ((T : Int) % 256), .int .u8 0, .int .u8 1, .int .u8 1, .int .u8 128] rfl (by omega) (by simp [bcells]) (by have := HL4.out; omega)
              rw [← HEQ.out] at ho3
              have HR3 := hide hr3
              have HO3 := hide ho3
              have HB3 := hide (HB2.out.trans hb3)
              clear hr3 ho3 hb3
              go_wp2_with fail
              refine kept_append_intro _ _ _ (.slice (some ⟨w2.heap.size, 0, none⟩) 8 8) v3 (w' := w3) (by rfl) (by rfl) (by exact HR3.out) ?_
              go_wp2
              go_meet
              exact ⟨HO3, HB3⟩
            | false =>
              have HEQ : Hid (eg = [64, 2, T / 256, T % 256]) := HEG.out
              obtain ⟨v3, w3, hr3, ho3, hb3, _⟩ := more_bytes HO2.out HB2.out.size [64, 2, T / 256, T % 256] 4 #[.int .u8 64, .int .u8 2, .int .u8 ((T : Int) / 256), .int .u8 ((T : Int) % 256)] rfl (by omega) (by simp [bcells]) (by have := HL4.out; omega)
              rw [← HEQ.out] at ho3
              have HR3 := hide hr3
              have HO3 := hide ho3
              have HB3 := hide (HB2.out.trans hb3)
              clear hr3 ho3 hb3
              go_wp2_with fail
              refine kept_append_intro _ _ _ (.slice (some ⟨w2.heap.size, 0, none⟩) 4 4) v3 (w' := w3) (by rfl) (by rfl) (by exact HR3.out) ?_
              go_wp2
              go_meet
              exact ⟨HO3, HB3⟩
          | false =>
            cases fam with
            | true =>
              have HEQ : Hid (eg = [64, 6, T / 256, T % 256, 0, 1, 1, 0]) := HEG.out
              obtain ⟨v3, w3, hr3, ho3, hb3, _⟩ := more_bytes HO2.out HB2.out.size [64, 6, T / 256, T % 256, 0, 1, 1, 0] 8 #[.int .u8 64, .int .u8 6, .int .u8 ((T : Int) / 256), .int .u8 ((T : Int) % 256), .int .u8 0, .int .u8 1, .int .u8 1, .int .u8 0] rfl (by omega) (by simp [bcells]) (by have := HL4.out; omega)
              rw [← HEQ.out] at ho3
              have HR3 := hide hr3
              have HO3 := hide ho3
              have HB3 := hide (HB2.out.trans hb3)
              clear hr3 ho3 hb3
              go_wp2_with fail
              refine kept_append_intro _ _ _ (.slice (some ⟨w2.heap.size, 0, none⟩) 8 8) v3 (w' := w3) (by rfl) (by rfl) (by exact HR3.out) ?_
              go_wp2
              go_meet
              exact ⟨HO3, HB3⟩
            | false =>
              have HEQ : Hid (eg = [64, 2, T / 256, T % 256]) := HEG.out
              obtain ⟨v3, w3, hr3, ho3, hb3, _⟩ := more_bytes HO2.out HB2.out.size [64, 2, T / 256, T % 256] 4 #[.int .u8 64, .int .u8 2, .int .u8 ((T : Int) / 256), .int .u8 ((T : Int) % 256)] rfl (by omega) (by simp [bcells]) (by have := HL4.out; omega)
              rw [← HEQ.out] at ho3
              have HR3 := hide hr3
              have HO3 := hide ho3
              have HB3 := hide (HB2.out.trans hb3)
              clear hr3 ho3 hb3
              go_wp2_with fail
              refine kept_append_intro _ _ _ (.slice (some ⟨w2.heap.size, 0, none⟩) 4 4) v3 (w' := w3) (by rfl) (by rfl) (by exact HR3.out) ?_
              go_wp2
              go_meet
              exact ⟨HO3, HB3⟩
      | false =>
        have HEG := hide (HG0.out (by trivial))
        go_wp2
        go_meet
        exact ⟨by show World.ownsRow _ _ _ _ _ _ _; rw [HEG.out, List.append_nil]; exact HO2.out, HB2⟩
    case rest =>
      obtain ⟨HO3, HB3⟩ := hcut
      clear HB2 HO2 x0 x1 x2 x3 x4 x5 x6 x7 x8 HGG HG0 hp2 hH2
      obtain ⟨w3, hw3⟩ : ∃ w3 : World, w3 = wc := ⟨wc, rfl⟩
      subst hw3
      obtain ⟨x0, x1, x2, x3, x4, x5, x6, x7, x8⟩ := HX.out w3 HB3.out
      have hH3 : w.heap.size < w3.heap.size := by have := World.block_lt_of_cell? w3 _ x0; simpa using this
      go_upto_if 51 with fail
      go_cut [3] (fun v wq => Hid (wq.ownsRow wB.heap.size 5 1 v ei.length (bcells ei)) ∧ Hid (Below wB.heap.size wB wq))
      case first =>
        cases ll with
        | true =>
          obtain ⟨n, hn0⟩ := Int.eq_ofNat_of_zero_le (show 0 ≤ lt by have := gLL_yes hp3 rfl; simp only at this; omega)
          have hn : n < 4294967296 := by have := gLL_yes hp3 rfl; simp only at this; omega
          have HEL := hide (HLL.out n (by trivial) hn0)
          have HEI : Hid (ei = (e4 ++ eg) ++ ([71, 7, 0, 1, 1, 0] ++ ((List.range 4).map (byteAt n)).drop 1)) := by show ei = _; rw [HIN.out, HEL.out, List.append_assoc]
          subst hn0
          clear hp3 hwB
          have e1 : (bcells [71, 7, 0, 1, 1, 0]).toArray = #[.int .u8 71, .int .u8 7, .int .u8 0, .int .u8 1, .int .u8 1, .int .u8 0] := rfl
          obtain ⟨va, wa, ra1, ba1, va2, wa2, ra2, ta⟩ := ord_a HO3.out HB3.out.size [71, 7, 0, 1, 1, 0] ((List.range 4).map (byteAt n)) 1 6 3 rfl rfl (by rw [List.length_append]; have := HL4.out; have := HLG.out; omega)
          obtain ⟨vb, wb, rb1, vb2, wb2, rb2, tb⟩ := ord_b HO3.out HB3.out.size [71, 7, 0, 1, 1, 0] ((List.range 4).map (byteAt n)) 1 6 3 rfl rfl (by rw [List.length_append]; have := HL4.out; have := HLG.out; omega)
          obtain ⟨vc, wc, rc1, vc2, wc2, rc2, tc⟩ := ord_c HO3.out HB3.out.size [71, 7, 0, 1, 1, 0] ((List.range 4).map (byteAt n)) 1 6 3 rfl rfl (by rw [List.length_append]; have := HL4.out; have := HLG.out; omega)
          rw [e1] at ra1 rb1 rc1
          obtain ⟨p0, p1, p2, p3, p4, p5, p6, p7, p8⟩ := HX.out wa (HB3.out.trans ba1)
          have hpa : w.heap.size < wa.heap.size := by have := World.block_lt_of_cell? wa _ p0; simpa using this
          have RA1 := hide ra1
          have RA2 := hide ra2
          have RB1 := hide rb1
          have RB2 := hide rb2
          have RC1 := hide rc1
          have RC2 := hide rc2
          have TA := hide ta
          have TB := hide tb
          have TC := hide tc
          clear ra1 ra2 rb1 rb2 rc1 rc2 ta tb tc ba1 e1
          go_wp2_with fail
          go_region_with (first
              | (go_at_call 51; refine (four_eq n _ hn).mono ?_; rintro e w9 ⟨rfl, rfl⟩)
              | (refine kept_append_intro _ _ _ _ va (w' := wa) (by rfl) (by rfl) (by exact RA1.out) ?_)
              | (refine kept_append_intro _ _ _ _ va2 (w' := wa2) (by rfl) (by rfl) (by exact RA2.out) ?_)
              | (refine kept_append_intro _ _ _ _ vb (w' := wb) (by rfl) (by rfl) (by exact RB1.out) ?_)
              | (refine kept_append_intro _ _ _ _ vb2 (w' := wb2) (by rfl) (by rfl) (by exact RB2.out) ?_)
              | (refine kept_append_intro _ _ _ _ vc (w' := wc) (by rfl) (by rfl) (by exact RC1.out) ?_)
              | (refine kept_append_intro _ _ _ _ vc2 (w' := wc2) (by rfl) (by rfl) (by exact RC2.out) ?_))
          all_goals go_wp2
          all_goals go_meet
          all_goals first
            | exact ⟨by show World.ownsRow _ _ _ _ _ _ _; rw [HEI.out]; exact TA.out.1, HB3.out.trans TA.out.2⟩
            | exact ⟨by show World.ownsRow _ _ _ _ _ _ _; rw [HEI.out]; exact TB.out.1, HB3.out.trans TB.out.2⟩
            | exact ⟨by show World.ownsRow _ _ _ _ _ _ _; rw [HEI.out]; exact TC.out.1, HB3.out.trans TC.out.2⟩
        | false =>
          have HEI : Hid (ei = e4 ++ eg) := by show ei = _; rw [HIN.out, HLL0.out (by trivial), List.append_nil]
          go_wp2
          go_meet
          exact ⟨by show World.ownsRow _ _ _ _ _ _ _; rw [HEI.out]; exact HO3.out, HB3⟩
      case rest =>
        obtain ⟨HO4, HB4⟩ := hcut
        clear HB3 HO3 x0 x1 x2 x3 x4 x5 x6 x7 x8 HLL HLL0 hp3 hH3
        obtain ⟨w4, hw4⟩ : ∃ w4 : World, w4 = wc := ⟨wc, rfl⟩
        subst hw4
        have hW4 : Hid (Below w.heap.size w w4) := hBw.trans (HB4.out.mono hBw.size)
        obtain ⟨a4, c4, rfl⟩ := own_shape HO4.out
        by_cases h0 : ei.length = 0
        · have hei : ei = [] := List.eq_nil_of_length_eq_zero h0
          have HE2 : Hid (ec = []) := by show ec = []; rw [HE.out, if_pos hei]
          rw [h0]
          go_wp2
          go_ret
          exact ⟨_, rfl, by rw [HE2.out]; exact own_nil _ _ _ _, hW4.out⟩
        · have hei : ei ≠ [] := fun e => h0 (by rw [e]; rfl)
          have hl23 : ei.length ≤ 23 := HLE.out
          have HE2 : Hid (ec = [2, ei.length] ++ ei) := by show ec = _; rw [HE.out, if_neg hei]; rfl
          obtain ⟨a5, c5, e5, _, hr⟩ := own_brd HO4.out (by omega) HLT.out
          simp only [Value.slice.injEq, true_and] at e5
          obtain ⟨rfl, rfl⟩ := e5
          have hb0 : Below w4.heap.size w4 (w4.alloc (.cells #[.int .u8 2, .int .u8 (ei.length : Int)] 5)) := below_new _ _
          have hm : (w4.alloc (.cells #[.int .u8 2, .int .u8 (ei.length : Int)] 5)).ownsRow w4.heap.size 5 1 (.slice (some ⟨w4.heap.size, 0, none⟩) 2 2) 2 (bcells [2, ei.length]) :=
            ⟨rfl, .inr ⟨w4.heap.size, 2, _, rfl, Nat.le_refl _, by unfold World.alloc; exact Array.getElem?_push_size, Nat.le_refl _, by unfold maxLen; omega, rfl, rfl⟩⟩
          obtain ⟨v6, w6, hr6, ho6, hb6⟩ := app_brd ei a4 c4 rfl hm hb0.size (by simp; omega) (hr.below hb0)
          rw [← HE2.out] at ho6
          have HR6 := hide hr6
          have HO6 : Hid (w6.ownsRow w.heap.size 5 1 v6 ec.length (bcells ec)) := own_base ho6 hW4.out.size
          have HB6 : Hid (Below w.heap.size w w6) := hW4.out.trans ((hb0.trans hb6).mono hW4.out.size)
          have h0i : ((ei.length : Int) == 0) = false := by simpa using h0
          have hw8 : IntKind.u8.wrap (ei.length : Int) = (ei.length : Int) := by rw [IntKind.wrap_u8]; omega
          clear hr6 ho6 hb6 hr hm hb0 h0 hei HE HE2 HIN HLT HLE HO4
          generalize ei.length = n at *
          go_wp2_with fail
          refine kept_append_intro _ _ _ _ v6 (w' := w6) (by rfl) (by rfl) (by exact HR6.out) ?_
          go_wp2
          go_ret
          exact ⟨_, rfl, HO6.out, HB6.out⟩
theorem rcaps_any (c : Cp) (w : World) : Calls Tryz.prog 52 #[capV c] w fun e w' => ∃ v, e = .returned v ∧ w'.ownsRow w.heap.size 5 1 v (encCp c).length (bcells (encCp c)) ∧ Below w.heap.size w w' := by
  cases h : goodC c with
  | true => exact rcaps_good c w h
  | false => exact rcaps_bad c w h
end
end Go.Proofs.YtkmfnafecdfedaaGreatDoor
