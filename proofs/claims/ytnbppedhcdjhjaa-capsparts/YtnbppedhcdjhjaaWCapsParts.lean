/- CapsParts' walk. -/
import Derived.Test.YtnbppedhcdjhjaaWCapsCut
import Derived.Test.YtnbppedhcdjhjaaWCapsReads
import Derived.Deep.RegionHeld3
import Derived.Deep.DeepCutAuto
namespace Go.Proofs.Ytnbppedhcdjhjaa
open Go.RowKit
set_option maxRecDepth 100000

theorem append_none {t e size bytes : Nat} (he : Elem t e size bytes) (w : World) (c : Nat) :
    (Builtin.append_ #[t, t] t #[.slice none 0 0, .slice none 0 c]).run Try.prog w = .ok (.slice none 0 0) w := by
  obtain ⟨i, z, hi, _⟩ := he.info
  have ht := he.sl
  simp [Builtin.append_, run_underlying ht, sizeOf, typeInfo, hi, Builtin.lenOf, Builtin.firstCells, go_sem]
/-- Bytes that are read, behind any row of the call's own. -/
theorem app_any {w : World} {B : Nat} {v : Value} {ys : List Nat} (zs : List Nat) (a : Option Addr) (c : Nat) (ho : w.ownsRow B 5 1 v ys.length (bcells ys)) (hB : B ≤ w.heap.size) (hl : ys.length + zs.length ≤ 500000) (h : BRd w a zs) :
    ∃ v' w', (Builtin.append_ #[24, 24] 24 #[v, .slice a zs.length c]).run Try.prog w = .ok v' w' ∧ w'.ownsRow B 5 1 v' (ys ++ zs).length (bcells (ys ++ zs)) ∧ Below B w w' := by
  have ho2 := ho
  rcases ho.2 with ⟨e, h0⟩ | ⟨g, cap, cur, e, _⟩
  · subst e
    cases a with
    | none =>
      have hz : zs = [] := by
        cases zs with
        | nil => rfl
        | cons z r => obtain ⟨b, off, e, _⟩ := h.1.2 (by simp); cases e
      subst hz
      exact ⟨_, w, append_none elemU8 w c, by rw [List.append_nil]; exact ho2, Below.refl _ _⟩
    | some ad =>
      have hc : ∀ j x, (bcells zs)[j]? = some x → w.cell? (ad.add j) = some x := fun j x hx => by
        have hj : j < zs.length := by have := (List.getElem?_eq_some_iff.1 hx).1; rwa [bcells_length] at this
        obtain ⟨b, off, e, h5⟩ := h.1.2 (by omega)
        cases e
        rw [Addr.add_mid, h5 j hj, ← hx]
        simp [bcells, hj]
      obtain ⟨v', w', hr, h2, h3, _, _⟩ := app_more elemU8 ho2 hB ad zs.length c (bcells zs) (by rw [bcells_length]; omega) hc (bcells_one _) (by omega)
      exact ⟨v', w', hr, by rw [bcells_app, List.length_append]; exact h2, h3⟩
  · subst e
    exact app_brd zs a c rfl ho2 hB hl h
/-- The bytes of capabilities behind a row, and what is then. -/
theorem caps_behind (c : Cp) (w : World) (B : Nat) (pre : List Nat) (v : Value) (Q : Value → World → Prop) (hpl : pre.length ≤ 400) (hB : B ≤ w.heap.size) (ho : w.ownsRow B 5 1 v pre.length (bcells pre))
    (hq : ∀ v2 w2, w2.ownsRow B 5 1 v2 (pre ++ encCp c).length (bcells (pre ++ encCp c)) → Below B w w2 → Q v2 w2) :
    Calls Try.prog 11 #[capV c] w fun e w' => ∃ a n cc v2 w2, e = .returned (.slice a n cc) ∧ Below w.heap.size w w' ∧ (Builtin.append_ #[24, 24] 24 #[v, .slice a n cc]).run Try.prog w' = .ok v2 w2 ∧ Below B w w2 ∧ Q v2 w2 := by
  refine (rcaps_any c w).mono fun e w' ⟨v9, he, hov, hb⟩ => ?_
  obtain ⟨a, cc, rfl, _, hr⟩ := own_brd hov (by have := encCp_length c; omega) (encCp_lt c)
  obtain ⟨v2, w2, h1, h2, h3⟩ := app_any (encCp c) a cc (own_later ho hb) (Nat.le_trans hB hb.size) (by have := encCp_length c; omega) hr
  exact ⟨a, _, cc, v2, w2, he, hb, h1, (hb.mono hB).trans h3, hq v2 w2 h2 ((hb.mono hB).trans h3)⟩
/-- The same, the row being made behind the call. -/
theorem caps_then (c : Cp) (w : World) (Q : Value → World → Prop) (B : Nat) (hB : B ≤ w.heap.size)
    (hq : ∀ v2 w2, w2.ownsRow B 5 1 v2 (encCp c).length (bcells (encCp c)) → Below B w w2 → Q v2 w2) :
    Calls Try.prog 11 #[capV c] w fun e w' => ∃ a n cc v2 w2, e = .returned (.slice a n cc) ∧ Below w.heap.size w w' ∧ (Builtin.append_ #[24, 24] 24 #[.slice (some ⟨w'.heap.size, 0, none⟩) 0 0, .slice a n cc]).run Try.prog (w'.alloc (.cells #[] 5)) = .ok v2 w2 ∧ Below B w w2 ∧ Q v2 w2 := by
  refine (rcaps_any c w).mono fun e w' ⟨v, he, hov, hb⟩ => ?_
  obtain ⟨a, cc, rfl, _, hr⟩ := own_brd hov (by have := encCp_length c; omega) (encCp_lt c)
  have hb4 : Below w'.heap.size w' (w'.alloc (.cells #[] 5)) := below_new _ _
  obtain ⟨v2, w2, h1, h2, h3⟩ := app_brd (n := 0) (ys := []) (encCp c) a cc rfl (own_base (own_empty w') (Nat.le_trans hB hb.size)) (Nat.le_trans (Nat.le_trans hB hb.size) hb4.size) (by have := encCp_length c; omega) (hr.below hb4)
  have hb5 : Below B w w2 := ((hb.mono hB).trans (hb4.mono (Nat.le_trans hB hb.size))).trans h3
  exact ⟨a, _, cc, v2, w2, he, hb, h1, hb5, hq v2 w2 h2 hb5⟩
set_option maxHeartbeats 1600000 in
theorem parts_no (c : Cp) (code : Nat) (am : Option Addr) (nm cm : Nat) (w : World) (hc : code < 256) (h : goodC c = false ∨ 100 < nm ∨ code = 64 ∨ code = 65 ∨ code = 71) :
    Calls Try.prog 5 #[capV c, .int .u8 (code : Int), .slice am nm cm] w fun e w' => e = .returned (.bool true) ∧ Below w.heap.size w w' := by
  have KR := hide (fun W => rgoodc_any c W)
  have HBb : Hid (∀ W, Below (w.alloc (.cells (capC c) 23)).heap.size (w.alloc (.cells (capC c) 23)) W → Below w.heap.size w W) := fun W hb => (below_new w _).trans (hb.mono (below_new w _).size)
  generalize goodC c = g at *
  obtain ⟨four, as4, gr, rs, tm, fam, fwd, ll, lt⟩ := c
  unfold capV capC at *
  simp only at *
  have HOR := hide h
  clear h
  go_enter Try.func5, Try.ntmps5
  go_wp2_with fail
  refine (KR.out _).mono ?_
  rintro e w1 ⟨rfl, hb1⟩
  have HB1 := hide (HBb.out w1 hb1)
  clear hb1 HBb
  cases g with
  | false =>
    go_wp2_with fail
    refine (ans_any w1).mono ?_
    rintro e w2 ⟨rfl, hb2⟩
    have HB2 := hide (HB1.out.trans (hb2.mono HB1.out.size))
    clear hb2
    go_wp2
    go_ret
    exact ⟨rfl, HB2.out⟩
  | true =>
    by_cases h1 : 100 < nm
    · have h1i : (100 : Int) < (nm : Int) := by omega
      go_wp2_with fail
      refine (ans_any w1).mono ?_
      rintro e w2 ⟨rfl, hb2⟩
      have HB2 := hide (HB1.out.trans (hb2.mono HB1.out.size))
      clear hb2
      go_wp2
      go_ret
      exact ⟨rfl, HB2.out⟩
    · have h1i : decide ((100 : Int) < (nm : Int)) = false := decide_eq_false (by omega)
      rcases HOR.out with h | h | h | h | h
      · cases h
      · omega
      · subst h
        clear h1
        go_wp2_with fail
        refine (ans_any w1).mono ?_
        rintro e w2 ⟨rfl, hb2⟩
        have HB2 := hide (HB1.out.trans (hb2.mono HB1.out.size))
        clear hb2
        go_wp2
        go_ret
        exact ⟨rfl, HB2.out⟩
      · subst h
        clear h1
        go_wp2_with fail
        refine (ans_any w1).mono ?_
        rintro e w2 ⟨rfl, hb2⟩
        have HB2 := hide (HB1.out.trans (hb2.mono HB1.out.size))
        clear hb2
        go_wp2
        go_ret
        exact ⟨rfl, HB2.out⟩
      · subst h
        clear h1
        go_wp2_with fail
        refine (ans_any w1).mono ?_
        rintro e w2 ⟨rfl, hb2⟩
        have HB2 := hide (HB1.out.trans (hb2.mono HB1.out.size))
        clear hb2
        go_wp2
        go_ret
        exact ⟨rfl, HB2.out⟩
section
attribute [local go_sem ↓] kept_append
set_option maxHeartbeats 6400000 in
theorem parts_go (c : Cp) (code : Nat) (am : Option Addr) (cm : Nat) (ms : List Nat) (w : World) (hc : code < 256) (hg : goodC c = true) (hl : ms.length ≤ 100) (h64 : code ≠ 64) (h65 : code ≠ 65) (h71 : code ≠ 71) (hr : BRd w am ms) :
    Calls Try.prog 5 #[capV c, .int .u8 (code : Int), .slice am ms.length cm] w fun e w' => e = .returned (.bool true) ∧ Below w.heap.size w w' := by
  have KR := hide (fun W => rgoodc_any c W)
  rw [hg] at KR
  obtain ⟨wb, hwb⟩ : ∃ wb, wb = w.alloc (.cells (capC c) 23) := ⟨_, rfl⟩
  have HBb : Hid (Below w.heap.size w wb) := by show Below _ _ _; rw [hwb]; exact below_new _ _
  have HBX : Hid (∀ X, Below wb.heap.size wb X → BoxC X w.heap.size c ∧ w.heap.size < X.heap.size) := fun X hb => by
    have h1 : BoxC wb w.heap.size c := by rw [hwb]; exact BoxC.new w c
    have h2 := h1.block (hb.block _ (by rw [hwb]; simp))
    exact ⟨h2, h2.size⟩
  have HRP := hide (readC_parts c hg code ms h64 h65 h71)
  have HLT : Hid (∀ x ∈ encCp (onlyL c) ++ encCp (onlyF c) ++ tlv 2 (tlv code ms) ++ encCp (onlyG c), x < 256) := fun x hx => by
    rcases List.mem_append.1 hx with hx | hx
    · rcases List.mem_append.1 hx with hx | hx
      · rcases List.mem_append.1 hx with hx | hx
        · exact encCp_lt _ x hx
        · exact encCp_lt _ x hx
      · refine tlv_lt (by omega) (by rw [tlv_length]; omega) (fun y hy => tlv_lt hc (by omega) hr.2 y hy) x hx
    · exact encCp_lt _ x hx
  have hnl := encCp_length (onlyL c)
  have hnf := encCp_length (onlyF c)
  have hng := encCp_length (onlyG c)
  have KF : Hid (∀ (W : World) (B : Nat) (v : Value) (w3 : World), B ≤ w3.heap.size → Below B w3 W → W.ownsRow B 5 1 v (encCp (onlyL c)).length (bcells (encCp (onlyL c))) → Calls Try.prog 11 #[capV (onlyF c)] W fun e w' => ∃ a n cc v2 w2, e = .returned (.slice a n cc) ∧ Below W.heap.size W w' ∧ (Builtin.append_ #[24, 24] 24 #[v, .slice a n cc]).run Try.prog w' = .ok v2 w2 ∧ Below B W w2 ∧ (w2.ownsRow B 5 1 v2 (encCp (onlyL c) ++ encCp (onlyF c)).length (bcells (encCp (onlyL c) ++ encCp (onlyF c))) ∧ Below B w3 w2)) := fun W B v w3 hB3 hb ho =>
    caps_behind (onlyF c) W B (encCp (onlyL c)) v _ (by omega) (Nat.le_trans hB3 hb.size) ho (fun v2 w2 h1 h2 => ⟨h1, hb.trans h2⟩)
  have K1 : Hid (∀ w3 : World, Calls Try.prog 11 #[capV (onlyL c)] (w3.alloc (.cells #[] 5)).drew fun e w' => ∃ a n cc v2 w2, e = .returned (.slice a n cc) ∧ Below (w3.alloc (.cells #[] 5)).drew.heap.size (w3.alloc (.cells #[] 5)).drew w' ∧ (Builtin.append_ #[24, 24] 24 #[.slice (some ⟨w3.heap.size, 0, none⟩) 0 0, .slice a n cc]).run Try.prog w' = .ok v2 w2 ∧ Below w3.heap.size (w3.alloc (.cells #[] 5)).drew w2 ∧ (Below w3.heap.size w3 w2 ∧ w2.ownsRow w3.heap.size 5 1 v2 (encCp (onlyL c)).length (bcells (encCp (onlyL c))))) := fun w3 => by
    have hb4 : Below w3.heap.size w3 (w3.alloc (.cells #[] 5)).drew := (below_new _ _).drew
    exact caps_behind (onlyL c) _ w3.heap.size [] _ _ (by simp) hb4.size (own_empty w3).drew (fun v2 w2 h1 h2 => ⟨hb4.trans h2, h1⟩)
  have K2 : Hid (∀ w3 : World, Calls Try.prog 11 #[capV (onlyL c)] w3.drew fun e w' => ∃ a n cc v2 w2, e = .returned (.slice a n cc) ∧ Below w3.drew.heap.size w3.drew w' ∧ (Builtin.append_ #[24, 24] 24 #[.slice (some ⟨w'.heap.size, 0, none⟩) 0 0, .slice a n cc]).run Try.prog (w'.alloc (.cells #[] 5)) = .ok v2 w2 ∧ Below w3.heap.size w3.drew w2 ∧ (Below w3.heap.size w3 w2 ∧ w2.ownsRow w3.heap.size 5 1 v2 (encCp (onlyL c)).length (bcells (encCp (onlyL c))))) := fun w3 =>
    caps_then (onlyL c) w3.drew _ w3.heap.size (Nat.le_refl _) (fun v2 w2 h1 h2 => ⟨(Below.refl _ _).drew.trans h2, h1⟩)
  have KG : Hid (∀ (W w3 : World) (B : Nat) (v : Value) (pre : List Nat), pre.length ≤ 400 → B ≤ w3.heap.size → Below B w3 W → W.ownsRow B 5 1 v pre.length (bcells pre) → Calls Try.prog 11 #[capV (onlyG c)] W fun e w' => ∃ a n cc v2 w2, e = .returned (.slice a n cc) ∧ Below W.heap.size W w' ∧ (Builtin.append_ #[24, 24] 24 #[v, .slice a n cc]).run Try.prog w' = .ok v2 w2 ∧ Below B W w2 ∧ (w2.ownsRow B 5 1 v2 (pre ++ encCp (onlyG c)).length (bcells (pre ++ encCp (onlyG c))) ∧ Below B w3 w2)) := fun W w3 B v pre hp hB3 hb ho =>
    caps_behind (onlyG c) W B pre v _ hp (Nat.le_trans hB3 hb.size) ho (fun v2 w2 h1 h2 => ⟨h1, hb.trans h2⟩)
  have HBOX : Hid (∀ (w1 X : World), Below (((w1.alloc (.cells (capC (onlyF c)) 23)).alloc (.cells (capC (onlyG c)) 23)).alloc (.cells (capC (onlyL c)) 23)).heap.size (((w1.alloc (.cells (capC (onlyF c)) 23)).alloc (.cells (capC (onlyG c)) 23)).alloc (.cells (capC (onlyL c)) 23)) X → BoxC X (w1.heap.size + 1 + 1) (onlyL c) ∧ BoxC X w1.heap.size (onlyF c) ∧ BoxC X (w1.heap.size + 1) (onlyG c)) := fun w1 X hb => by
    have hF := BoxC.new w1 (onlyF c)
    have hG := BoxC.new (w1.alloc (.cells (capC (onlyF c)) 23)) (onlyG c)
    have hL := BoxC.new ((w1.alloc (.cells (capC (onlyF c)) 23)).alloc (.cells (capC (onlyG c)) 23)) (onlyL c)
    simp only [World.size_alloc] at hG hL
    refine ⟨hL.block (hb.block _ (by simp only [World.size_alloc]; omega)), hF.block ?_, hG.block ?_⟩
    · rw [hb.block _ (by simp only [World.size_alloc]; omega), heap_alloc_old _ _ (by simp only [World.size_alloc]; omega), heap_alloc_old _ _ (by simp only [World.size_alloc]; omega)]
    · rw [hb.block _ (by simp only [World.size_alloc]; omega), heap_alloc_old _ _ (by simp only [World.size_alloc]; omega)]
  have HMS := hide hr
  have hlm := hl
  clear hg hr hl
  generalize hL9 : encCp (onlyL c) = eL at *
  generalize hF9 : encCp (onlyF c) = eF at *
  generalize hG9 : encCp (onlyG c) = eG at *
  clear hL9 hF9 hG9
  obtain ⟨four, as4, gr, rs, tm, fam, fwd, ll, lt⟩ := c
  unfold capV BoxC capC onlyF onlyG onlyL cp0 at *
  simp only at *
  obtain ⟨nm, hnm⟩ : ∃ nm, ms.length = nm := ⟨_, rfl⟩
  rw [hnm] at hlm
  rw [hnm]
  have HNM := hide hnm
  have h1i : decide ((100 : Int) < (nm : Int)) = false := decide_eq_false (by omega)
  have i64 : ((code : Int) == 64) = false := by simp; omega
  have i65 : ((code : Int) == 65) = false := by simp; omega
  have i71 : ((code : Int) == 71) = false := by simp; omega
  clear hnm h64 h65 h71
  go_enter Try.func5, Try.ntmps5
  go_wp2_with fail
  rw [← hwb]
  refine (KR.out wb).mono ?_
  rintro e w1 ⟨rfl, hb1⟩
  obtain ⟨⟨x0, x1, x2, x3, x4, x5, x6, x7, x8⟩, hx⟩ := HBX.out w1 hb1
  have HW1 := hide hb1
  clear hb1 KR
  go_upto_region 6 with fail
  obtain ⟨w3, hw3⟩ : ∃ w3, w3 = ((w1.alloc (.cells #[.bool four, .int .i64 as4, .bool false, .bool false, .int .i64 0, .bool false, .bool false, .bool false, .int .i64 0] 23)).alloc (.cells #[.bool false, .int .i64 0, .bool gr, .bool rs, .int .i64 tm, .bool fam, .bool fwd, .bool false, .int .i64 0] 23)).alloc (.cells #[.bool false, .int .i64 0, .bool false, .bool false, .int .i64 0, .bool false, .bool false, .bool ll, .int .i64 lt] 23) := ⟨_, rfl⟩
  have HBO := hide (HBOX.out w1)
  rw [← hw3] at HBO
  rw [← hw3]
  have HW3 : Hid (Below wb.heap.size wb w3) := by
    show Below _ _ _
    rw [hw3]
    exact ((HW1.out.alloc HW1.out.size _).alloc (by have := HW1.out.size; simp; omega) _).alloc (by have := HW1.out.size; simp only [World.size_alloc]; omega) _
  clear hw3 HBOX x0 x1 x2 x3 x4 x5 x6 x7 x8
  have HK1 := hide (K1.out w3)
  have HK2 := hide (K2.out w3)
  have HE3 : Hid (Below w3.heap.size w3 (w3.alloc (.cells #[] 5)).drew) := (below_new _ _).drew
  have HD3 : Hid (Below w3.heap.size w3 w3.drew) := (Below.refl _ _).drew
  have HSd := hide (HBO.out w3.drew HD3.out)
  have HSe := hide (HBO.out (w3.alloc (.cells #[] 5)).drew (below_new _ _).drew)
  go_cut [10] (fun v wq => Hid (wq.ownsRow w3.heap.size 5 1 v (eL ++ eF).length (bcells (eL ++ eF))) ∧ Hid (Below w3.heap.size w3 wq))
  case first =>
    go_region_held3 (fun w' => (w'.cell? ⟨w1.heap.size + 1 + 1, 0, none⟩ = some (.bool false) ∧ w'.cell? ⟨w1.heap.size + 1 + 1, 1, none⟩ = some (.int .i64 0) ∧ w'.cell? ⟨w1.heap.size + 1 + 1, 2, none⟩ = some (.bool false) ∧ w'.cell? ⟨w1.heap.size + 1 + 1, 3, none⟩ = some (.bool false) ∧ w'.cell? ⟨w1.heap.size + 1 + 1, 4, none⟩ = some (.int .i64 0) ∧ w'.cell? ⟨w1.heap.size + 1 + 1, 5, none⟩ = some (.bool false) ∧ w'.cell? ⟨w1.heap.size + 1 + 1, 6, none⟩ = some (.bool false) ∧ w'.cell? ⟨w1.heap.size + 1 + 1, 7, none⟩ = some (.bool ll) ∧ w'.cell? ⟨w1.heap.size + 1 + 1, 8, none⟩ = some (.int .i64 lt)) ∧ (w'.cell? ⟨w1.heap.size, 0, none⟩ = some (.bool four) ∧ w'.cell? ⟨w1.heap.size, 1, none⟩ = some (.int .i64 as4) ∧ w'.cell? ⟨w1.heap.size, 2, none⟩ = some (.bool false) ∧ w'.cell? ⟨w1.heap.size, 3, none⟩ = some (.bool false) ∧ w'.cell? ⟨w1.heap.size, 4, none⟩ = some (.int .i64 0) ∧ w'.cell? ⟨w1.heap.size, 5, none⟩ = some (.bool false) ∧ w'.cell? ⟨w1.heap.size, 6, none⟩ = some (.bool false) ∧ w'.cell? ⟨w1.heap.size, 7, none⟩ = some (.bool false) ∧ w'.cell? ⟨w1.heap.size, 8, none⟩ = some (.int .i64 0)) ∧ (w'.cell? ⟨w1.heap.size + 1, 0, none⟩ = some (.bool false) ∧ w'.cell? ⟨w1.heap.size + 1, 1, none⟩ = some (.int .i64 0) ∧ w'.cell? ⟨w1.heap.size + 1, 2, none⟩ = some (.bool gr) ∧ w'.cell? ⟨w1.heap.size + 1, 3, none⟩ = some (.bool rs) ∧ w'.cell? ⟨w1.heap.size + 1, 4, none⟩ = some (.int .i64 tm) ∧ w'.cell? ⟨w1.heap.size + 1, 5, none⟩ = some (.bool fam) ∧ w'.cell? ⟨w1.heap.size + 1, 6, none⟩ = some (.bool fwd) ∧ w'.cell? ⟨w1.heap.size + 1, 7, none⟩ = some (.bool false) ∧ w'.cell? ⟨w1.heap.size + 1, 8, none⟩ = some (.int .i64 0)))
      (first | (with_reducible first | exact HSd.out | exact HSe.out | exact HS4.out | exact HS5.out | exact HS6.out | exact HS7.out) | go_keep)
      (first
        | (go_at_call 11
           with_reducible refine HK1.out.mono ?_
           rintro e w4 ⟨a4, n4, c4, v4, w5, rfl, hb4, hr4, hb5, hq1, hq2⟩
           have HS4 := hide (HBO.out w4 (HE3.out.trans (hb4.mono HE3.out.size)))
           have HS5 := hide (HBO.out w5 hq1)
           have HQ5 := hide hq1
           have HR4 := hide hr4
           have HK5 := hide (KF.out w5 w3.heap.size v4 w3 (Nat.le_refl _) hq1 hq2)
           clear hb4 hr4 hb5 hq1 hq2)
        | (go_at_call 11
           with_reducible refine HK2.out.mono ?_
           rintro e w4 ⟨a4, n4, c4, v4, w5, rfl, hb4, hr4, hb5, hq1, hq2⟩
           have HS4 := hide (HBO.out w4 (HD3.out.trans (hb4.mono HD3.out.size)))
           have HS5 := hide (HBO.out w5 hq1)
           have HQ5 := hide hq1
           have HR4 := hide hr4
           have HK5 := hide (KF.out w5 w3.heap.size v4 w3 (Nat.le_refl _) hq1 hq2)
           clear hb4 hr4 hb5 hq1 hq2)
        | (refine kept_append_intro _ _ (.slice (some ⟨w3.heap.size, 0, none⟩) 0 0) (.slice a4 n4 c4) v4 (w' := w5) (by rfl) (by rfl) (by with_reducible exact HR4.out) ?_)
        | (refine kept_append_intro _ _ (.slice (some ⟨w4.heap.size, 0, none⟩) 0 0) (.slice a4 n4 c4) v4 (w' := w5) (by rfl) (by rfl) (by with_reducible exact HR4.out) ?_)
        | (go_at_call 11
           with_reducible refine HK5.out.mono ?_
           rintro e w6 ⟨a6, n6, c6, v6, w7, rfl, hb6, hr6, hb7, hq1, hq2⟩
           have HS6 := hide (HBO.out w6 (HQ5.out.trans (hb6.mono HQ5.out.size)))
           have HS7 := hide (HBO.out w7 hq2)
           have HR6 := hide hr6
           have HO7 := hide hq1
           have HW7 := hide hq2
           clear hb6 hr6 hb7 hq1 hq2)
        | (refine kept_append_intro _ _ v4 (.slice a6 n6 c6) v6 (w' := w7) (by rfl) (by rfl) (by with_reducible exact HR6.out) ?_)
        | fail)
    all_goals go_wp2_with fail
    all_goals go_meet
    all_goals exact ⟨HO7, HW7⟩
  case rest =>
    obtain ⟨HO7, HW7⟩ := hcut
    clear HK1 HK2 HSd HSe K1 K2 KF
    obtain ⟨w7, hw7⟩ : ∃ w7 : World, w7 = wc := ⟨wc, rfl⟩
    subst hw7
    obtain ⟨v8, w8, hr8, ho8, hb8, _⟩ := more_bytes HO7.out HW7.out.size [2, nm + 2, code, nm] 4 #[.int .u8 2, .int .u8 ((nm : Int) + 2), .int .u8 (code : Int), .int .u8 (nm : Int)] rfl (by omega) (by simp [bcells]) (by rw [List.length_append]; omega)
    have HR8 := hide hr8
    have hW8 : Below w3.heap.size w3 w8 := HW7.out.trans hb8
    have hbw8 : Below w.heap.size w w8 := HBb.out.trans ((HW3.out.trans (hW8.mono HW3.out.size)).mono HBb.out.size)
    have hms8 : BRd w8.drew am ms := (HMS.out.below hbw8).below (Below.refl _ _).drew
    obtain ⟨v9, w9, hr9, ho9, hb9⟩ := app_any ms am cm ho8.drew hW8.size (by have := HNM.out; simp only [List.length_append, List.length_cons, List.length_nil]; omega) hms8
    rw [HNM.out] at hr9
    have HR9 := hide hr9
    have hW9 : Below w3.heap.size w3 w9 := hW8.drew.trans hb9
    have HKG := hide (KG.out w9 w3 w3.heap.size v9 _ (by have := HNM.out; simp only [List.length_append, List.length_cons, List.length_nil]; omega) (Nat.le_refl _) hW9 ho9)
    have HS8 := hide (HBO.out w8.drew hW8.drew)
    have HS9 := hide (HBO.out w9 hW9)
    have HW9 := hide hW9
    have hw8n : IntKind.u8.wrap ((nm : Int) + 2) = (nm : Int) + 2 := by rw [IntKind.wrap_u8]; omega
    have hw9n : IntKind.u8.wrap (nm : Int) = (nm : Int) := by rw [IntKind.wrap_u8]; omega
    have HTOT : Hid (eL ++ eF ++ [2, nm + 2, code, nm] ++ ms ++ eG = eL ++ eF ++ tlv 2 (tlv code ms) ++ eG) := by
      show _ = _
      have e1 : tlv 2 (tlv code ms) = [2, nm + 2, code, nm] ++ ms := by
        unfold tlv
        simp only [List.length_cons, HNM.out]
        rfl
      rw [e1]
      simp only [List.append_assoc]
    clear hr8 ho8 hb8 hW8 hbw8 hms8 hr9 ho9 hb9 hW9 KG
    go_upto_region 8 with (refine kept_append_intro _ _ _ (.slice (some ⟨w7.heap.size, 0, none⟩) 4 4) v8 (w' := w8) (by rfl) (by rfl) (by exact HR8.out) ?_)
    go_cut [10] (fun v wq => Hid (wq.ownsRow w3.heap.size 5 1 v (eL ++ eF ++ tlv 2 (tlv code ms) ++ eG).length (bcells (eL ++ eF ++ tlv 2 (tlv code ms) ++ eG))) ∧ Hid (Below w3.heap.size w3 wq))
    case first =>
      go_region_held3 (fun w' => w'.cell? ⟨w1.heap.size + 1, 0, none⟩ = some (.bool false) ∧ w'.cell? ⟨w1.heap.size + 1, 1, none⟩ = some (.int .i64 0) ∧ w'.cell? ⟨w1.heap.size + 1, 2, none⟩ = some (.bool gr) ∧ w'.cell? ⟨w1.heap.size + 1, 3, none⟩ = some (.bool rs) ∧ w'.cell? ⟨w1.heap.size + 1, 4, none⟩ = some (.int .i64 tm) ∧ w'.cell? ⟨w1.heap.size + 1, 5, none⟩ = some (.bool fam) ∧ w'.cell? ⟨w1.heap.size + 1, 6, none⟩ = some (.bool fwd) ∧ w'.cell? ⟨w1.heap.size + 1, 7, none⟩ = some (.bool false) ∧ w'.cell? ⟨w1.heap.size + 1, 8, none⟩ = some (.int .i64 0))
        (first | (with_reducible first | exact HS8.out.2.2 | exact HS9.out.2.2 | exact HS10.out.2.2 | exact HS11.out.2.2) | go_keep)
        (first
          | (refine kept_append_intro _ _ v8 (.slice am nm cm) v9 (w' := w9) (by rfl) (by rfl) (by with_reducible exact HR9.out) ?_)
          | (go_at_call 11
             with_reducible refine HKG.out.mono ?_
             rintro e w10 ⟨a10, n10, c10, v10, w11, rfl, hb10, hr10, hb11, hq1, hq2⟩
             have HS10 := hide (HBO.out w10 (HW9.out.trans (hb10.mono HW9.out.size)))
             have HS11 := hide (HBO.out w11 hq2)
             have HR10 := hide hr10
             have HO11 := hide hq1
             have HW11 := hide hq2
             clear hb10 hr10 hb11 hq1 hq2)
          | (refine kept_append_intro _ _ v9 (.slice a10 n10 c10) v10 (w' := w11) (by rfl) (by rfl) (by with_reducible exact HR10.out) ?_)
          | fail)
      all_goals go_wp2_with fail
      all_goals go_meet
      all_goals exact ⟨by show World.ownsRow _ _ _ _ _ _ _; rw [← HTOT.out]; exact HO11.out, HW11⟩
    case rest =>
      obtain ⟨HO12, HW12⟩ := hcut
      clear HKG HS8 HS9 HR8 HR9 HTOT HO7 HW7
      obtain ⟨w12, hw12⟩ : ∃ w12 : World, w12 = wc := ⟨wc, rfl⟩
      subst hw12
      obtain ⟨a12, c12, hv12, hd12⟩ := dec_own HO12.out (by have := HNM.out; simp only [List.length_append, tlv_length]; omega) HLT.out
      subst hv12
      rw [HRP.out] at hd12
      unfold decV capV at hd12
      simp only [Option.getD_some, Option.isSome_some] at hd12
      have HD12 := hide hd12
      have hW12 : Below wb.heap.size wb w12 := HW3.out.trans (HW12.out.mono HW3.out.size)
      have HWW := hide hW12
      clear hd12 hW12
      generalize (eL ++ eF ++ tlv 2 (tlv code ms) ++ eG).length = n12 at *
      go_wp2_with fail
      refine HD12.out.mono ?_
      rintro e w13 ⟨rfl, hb13⟩
      have HW13 := hide (HWW.out.trans (hb13.mono HWW.out.size))
      clear hb13
      obtain ⟨wd, hwd⟩ : ∃ wd, wd = w13.alloc (.cells #[.bool four, .int .i64 as4, .bool gr, .bool rs, .int .i64 tm, .bool fam, .bool fwd, .bool ll, .int .i64 lt] 23) := ⟨_, rfl⟩
      have hbd : Below w13.heap.size w13 wd := by rw [hwd]; exact below_new _ _
      have HBD : Hid (∀ X, Below wd.heap.size wd X → BoxC X w13.heap.size ⟨four, as4, gr, rs, tm, fam, fwd, ll, lt⟩ ∧ w13.heap.size < X.heap.size) := fun X hb => by
        have h1 : BoxC wd w13.heap.size ⟨four, as4, gr, rs, tm, fam, fwd, ll, lt⟩ := by rw [hwd]; exact BoxC.new w13 ⟨four, as4, gr, rs, tm, fam, fwd, ll, lt⟩
        have h2 := h1.block (hb.block _ (by rw [hwd]; simp))
        exact ⟨h2, h2.size⟩
      unfold BoxC at HBD
      simp only at HBD
      go_wp2_with fail
      rw [← hwd]
      refine (ans_any wd).mono ?_
      rintro e w14 ⟨rfl, hb14⟩
      obtain ⟨⟨y0, y1, y2, y3, y4, y5, y6, y7, y8⟩, hy⟩ := HBD.out w14 hb14
      have h14 : Below w13.heap.size w13 w14 := hbd.trans (hb14.mono hbd.size)
      have hbx := HBX.out w14 (HW13.out.trans (h14.mono HW13.out.size))
      obtain ⟨⟨x0, x1, x2, x3, x4, x5, x6, x7, x8⟩, hxs⟩ := hbx
      have HB14 : Hid (Below w.heap.size w w14) := HBb.out.trans ((HW13.out.trans (h14.mono HW13.out.size)).mono HBb.out.size)
      clear hb14 h14 hwd hbd
      go_wp2
      go_ret
      exact ⟨rfl, HB14.out⟩
end
theorem capsParts_walk (c : Cp) (z1 : Int) (a2 : Option Addr) (len2 cap2 : Nat) (zs2 : List Int) (W : World) (w1 : (Lit.int IntKind.u8 z1).wf = true) (w2 : IsRow .u8 W a2 len2 cap2 zs2) : Calls Try.prog 5 #[capV c, .int .u8 z1, .slice a2 len2 cap2] W fun e W' => e = .returned (.bool true) ∧ Below W.heap.size W W' := by
  have b1 := bounds_u8 w1
  obtain ⟨n1, rfl⟩ := Int.eq_ofNat_of_zero_le (show 0 ≤ z1 by omega)
  obtain ⟨ms, rfl, hlc, hr⟩ := brd_row w2
  by_cases h : goodC c = false ∨ 100 < ms.length ∨ n1 = 64 ∨ n1 = 65 ∨ n1 = 71
  · exact parts_no c n1 a2 ms.length cap2 W (by omega) h
  · simp only [not_or] at h
    exact parts_go c n1 a2 cap2 ms W (by omega) (by simpa using h.1) (by omega) h.2.2.1 h.2.2.2.1 h.2.2.2.2 hr
end Go.Proofs.Ytnbppedhcdjhjaa
