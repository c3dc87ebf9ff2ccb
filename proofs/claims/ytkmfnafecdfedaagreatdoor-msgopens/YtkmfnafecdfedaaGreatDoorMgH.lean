/- The program's Head. -/
import Derived.Test.YtkmfnafecdfedaaGreatDoorHMa
import Derived.Deep.QuietTactic
import Derived.BigQuiet
namespace Go.Proofs.YtkmfnafecdfedaaGreatDoor
open Go.RowKit
set_option maxRecDepth 100000

/-- What the table tells of kinds 0 to 4: least, most. -/
def saidML : List Int := [0, 0, 29, 4096, 23, 4096, 21, 4096, 19, 19]
def SaidM (w : World) : Prop := ∀ k z, saidML[k]? = some z → w.cell? ⟨0, k, none⟩ = some (.int .i64 z)
theorem SaidM.pos {w : World} (h : SaidM w) : 0 < w.heap.size := by
  have := World.block_lt_of_cell? w _ (h 0 0 rfl)
  simpa using this
theorem SaidM.below {w w' : World} (h : SaidM w) (hb : Below w.heap.size w w') : SaidM w' := fun k z hk => by
  rw [hb.cell (p := ⟨0, k, none⟩) (by exact h.pos)]
  exact h k z hk
theorem SaidM.at {w : World} (h : SaidM w) (k : Nat) (h1 : 1 ≤ k) (h4 : k ≤ 4) :
    w.cell? ⟨0, k * 2, none⟩ = some (.int .i64 (leastOf k : Int)) ∧ w.cell? ⟨0, k * 2 + 1, none⟩ = some (.int .i64 (mostOf k : Int)) := by
  have hk : k = 1 ∨ k = 2 ∨ k = 3 ∨ k = 4 := by omega
  rcases hk with rfl | rfl | rfl | rfl <;> exact ⟨h _ _ rfl, h _ _ rfl⟩
/-- What Head answers, both the program's and the document's. -/
def HdIs (w w' : World) (e : Ending) (r : Nat × Nat × Nat × List Nat) : Prop := ∃ u, e = .returned (.tuple #[.int .i64 (r.1 : Int), u]) ∧ NoteIs w.heap.size w' u r.2.1 r.2.2.1 r.2.2.2
theorem hd_two {bs : List Nat} (h : 18 ≤ bs.length) : numB ((bs.drop 16).take 2) = hdSize bs := by
  have e : (bs.drop 16).take 2 = [bs.getD 16 0, bs.getD 17 0] := by
    apply List.ext_getElem?
    intro i
    match i with
    | 0 => rw [List.getElem?_take_of_lt (by omega), List.getElem?_drop, List.getElem?_eq_getElem (by omega)]; simp [List.getD_eq_getElem?_getD, List.getElem?_eq_getElem (show 16 < bs.length by omega)]
    | 1 => rw [List.getElem?_take_of_lt (by omega), List.getElem?_drop, List.getElem?_eq_getElem (by omega)]; simp [List.getD_eq_getElem?_getD, List.getElem?_eq_getElem (show 17 < bs.length by omega)]
    | i + 2 => simp; omega
  rw [e]
  simp [numB, hdSize]
  omega
theorem str_of (w : World) (b o c n : Nat) (xs : List Nat) (hn : xs.length = n) (hlt : ∀ x ∈ xs, x < 256) (hc : ∀ i, i < n → w.cell? ⟨b, o + i, none⟩ = some (.int .u8 (xs.getD i 0 : Int))) :
    (convert 22 9 (.slice (some ⟨b, o, none⟩) n c)).run Tryz.prog w = .ok (.string ⟨(xs.map UInt8.ofNat).toArray⟩) w := by
  subst hn
  have := run_convert_bytes_back (P := Tryz.prog) w 22 9 5 ⟨b, o, none⟩ c (xs.map UInt8.ofNat) Tryz.underlying22 Tryz.underlying5 Tryz.underlying9 (fun j hj => by
    rw [List.length_map] at hj
    rw [Addr.add_mid, hc j hj]
    have h9 : xs.getD j 0 = xs[j] := by rw [List.getD_eq_getElem?_getD, List.getElem?_eq_getElem hj]; rfl
    have h8 := hlt xs[j] (List.getElem_mem hj)
    rw [h9]
    simp
    omega)
  simpa using this
theorem str_eq (xs : List Nat) (h : xs.length = 16) (hlt : ∀ x ∈ xs, x < 256) : ((⟨(xs.map UInt8.ofNat).toArray⟩ : ByteArray) = ⟨#[255, 255, 255, 255, 255, 255, 255, 255, 255, 255, 255, 255, 255, 255, 255, 255]⟩) ↔ xs = List.replicate 16 255 := by
  constructor
  · intro e
    have e2 := congrArg (fun s : ByteArray => s.data.toList.map UInt8.toNat) e
    simp only [List.map_map] at e2
    have e3 : xs.map (UInt8.toNat ∘ UInt8.ofNat) = xs := by
      have : ∀ x ∈ xs, (UInt8.toNat ∘ UInt8.ofNat) x = id x := fun x hx => by have := hlt x hx; simp; omega
      rw [List.map_congr_left this]; simp
    rw [e3] at e2
    exact e2
  · intro e
    subst e
    rfl
set_option maxHeartbeats 800000 in
theorem head_short (a : Option Addr) (c n : Nat) (w : World) (h : n < 19) :
    Calls Tryz.prog 20 #[.slice a n c] w fun e w' => HdIs w w' e (0, 0, 0, []) ∧ Below w.heap.size w w' := by
  go_enter Tryz.func20, Tryz.ntmps20
  go_wp2_with fail
  refine bodyPost_ret (v := .tuple #[.int .i64 0, .agg #[.int .i64 0, .int .i64 0, .slice none 0 0]]) (by simp [results, Tryz.results20, go_sem]) rfl ⟨⟨_, rfl, none, 0, rfl, own_nil _ _ _ _⟩, ?_⟩
  exact (Below.refl _ _).alloc (Nat.le_refl _) _
theorem below_drew3 {w W : World} {X : Nat} {u0 u1 u2 : Value} (h : Below X w W) : Below X w (((W.setCell ⟨X, 0, none⟩ u0).setCell ⟨X, 1, none⟩ u1).setCell ⟨X, 2, none⟩ u2).drew :=
  have h9 := ((h.setCell (p := ⟨X, 0, none⟩) (Nat.le_refl _) u0).setCell (p := ⟨X, 1, none⟩) (Nat.le_refl _) u1).setCell (p := ⟨X, 2, none⟩) (Nat.le_refl _) u2
  ⟨h9.os, h9.tape, h9.output, h9.size, h9.block⟩
theorem own_set3 {W : World} {B X n : Nat} {v u0 u1 u2 : Value} {xs : List Value} (h : W.ownsRow B 5 1 v n xs) (hX : X < B) : (((W.setCell ⟨X, 0, none⟩ u0).setCell ⟨X, 1, none⟩ u1).setCell ⟨X, 2, none⟩ u2).drew.ownsRow B 5 1 v n xs :=
  own_later (own_under (own_under (own_under h hX 0 u0) hX 1 u1) hX 2 u2) ⟨rfl, rfl, rfl, Nat.le_refl _, fun _ _ => rfl⟩
set_option maxHeartbeats 4000000 in
theorem head_rest (b o c n : Nat) (bs : List Nat) (w : World) (hn : bs.length = n) (h19 : 19 ≤ n) (hl : n ≤ 100000) (hcap : n ≤ c) (h : BRd w (some ⟨b, o, none⟩) bs) (hS : SaidM w) :
    Calls Tryz.prog 20 #[.slice (some ⟨b, o, none⟩) n c] w fun e w' => HdIs w w' e (headM bs) ∧ Below w.heap.size w w' := by
  obtain ⟨b', o', e9, hc⟩ := h.1.2 (by omega)
  cases e9
  have HC : Hid (∀ i, i < n → w.cell? ⟨b, o + i, none⟩ = some (.int .u8 (bs.getD i 0 : Int))) := fun i hi => hc i (by omega)
  have c18 := HC.out 18 (by omega)
  have zb := World.block_lt_of_cell? w _ c18
  simp only at zb
  have hlen2 : ((bs.drop 16).take 2).length = 2 := by rw [List.length_take, List.length_drop]; omega
  have hlen1 : ((bs.drop 18).take 1).length = 1 := by rw [List.length_take, List.length_drop]; omega
  have hbA : Below w.heap.size w (w.alloc (.cells #[.int .i64 0, .int .i64 0, .slice none 0 0] 38)) := (Below.refl _ _).alloc (Nat.le_refl _) _
  have hbm : ∀ m, Below w.heap.size w ((w.alloc (.cells #[.int .i64 0, .int .i64 0, .slice none 0 0] 38)).drewN m) := fun m => below_drewN hbA m
  have br2 : BRd w (some ⟨b, o + 16, none⟩) ((bs.drop 16).take 2) := brd_from h 16 2 (by omega)
  have K1 : Hid (∀ m, Calls Tryz.prog 38 #[.slice (some ⟨b, o + 16, none⟩) 2 (c - 16)] ((w.alloc (.cells #[.int .i64 0, .int .i64 0, .slice none 0 0] 38)).drewN m) fun e w' => e = .returned (.int .i64 (hdSize bs : Int)) ∧ w' = ((w.alloc (.cells #[.int .i64 0, .int .i64 0, .slice none 0 0] 38)).drewN m)) := fun m => by
    have h2 := br2.below (hbm m)
    obtain ⟨b2, o2, e2, hc2⟩ := h2.1.2 (by omega)
    cases e2
    have := mnumof_any b (o + 16) 2 (c - 16) ((bs.drop 16).take 2) _ hlen2 (by omega) h2.2 (fun i hi => hc2 i (by omega))
    rwa [hd_two (by omega)] at this
  have K2 : Hid (∀ m, Calls Tryz.prog 21 #[.int .i64 1, .int .i64 2, .slice (some ⟨b, o + 16, none⟩) 2 (c - 16)] ((w.alloc (.cells #[.int .i64 0, .int .i64 0, .slice none 0 0] 38)).drewN m) fun e w2 => ∃ a9 c9, e = .returned (.agg #[.int .i64 1, .int .i64 2, .slice a9 2 c9]) ∧ Hid (w2.ownsRow (w.heap.size + 1) 5 1 (.slice a9 2 c9) 2 (bcells ((bs.drop 16).take 2))) ∧ Hid (Below w.heap.size w w2) ∧ Hid (NtBox w2 w.heap.size)) := fun m => by
    have hsz : ((w.alloc (.cells #[.int .i64 0, .int .i64 0, .slice none 0 0] 38)).drewN m).heap.size = w.heap.size + 1 := by show (w.alloc _).heap.size = _; simp
    refine (noteof_box 1 2 (some ⟨b, o + 16, none⟩) (c - 16) 2 ((bs.drop 16).take 2) _ w.heap.size hlen2 (by omega) (br2.below (hbm m)) ((NtBox.made w).below (B := w.heap.size + 1) ⟨rfl, rfl, rfl, Nat.le_refl _, fun _ _ => rfl⟩ (by omega))).mono ?_
    rintro e w2 ⟨a9, c9, rfl, ho, hb3, hx⟩
    rw [hsz] at ho hb3
    exact ⟨a9, c9, rfl, ho, (hbm m).trans (hb3.out.mono (by omega)), hx⟩
  have hk : bs.getD 18 0 < 256 := getD_lt256 h.2 18
  have hs16 : bs.getD 16 0 < 256 := getD_lt256 h.2 16
  have hs17 : bs.getD 17 0 < 256 := getD_lt256 h.2 17
  have hsz : hdSize bs < 65536 := by unfold hdSize; omega
  have HH := hide h
  have HS := hide hS
  have HM1 : Hid (bs.take 16 ≠ List.replicate 16 255 → headM bs = (0, 1, 1, [])) := fun hm => headM_mark (by omega) hm
  have HM2 : Hid (bs.take 16 = List.replicate 16 255 → (hdSize bs < 19 ∨ 4096 < hdSize bs) → headM bs = (0, 1, 2, (bs.drop 16).take 2)) := fun hm h2 => headM_size (by omega) (fun x => x hm) h2
  have HM3 : Hid (bs.take 16 = List.replicate 16 255 → ¬ (hdSize bs < 19 ∨ 4096 < hdSize bs) → (bs.getD 18 0 < 1 ∨ 4 < bs.getD 18 0) → headM bs = (0, 1, 3, (bs.drop 18).take 1)) := fun hm h2 h3 => headM_kind (by omega) (fun x => x hm) h2 h3
  have HM4 : Hid (bs.take 16 = List.replicate 16 255 → ¬ (hdSize bs < 19 ∨ 4096 < hdSize bs) → ¬ (bs.getD 18 0 < 1 ∨ 4 < bs.getD 18 0) → (hdSize bs < leastOf (bs.getD 18 0) ∨ mostOf (bs.getD 18 0) < hdSize bs) → headM bs = (0, 1, 2, (bs.drop 16).take 2)) := fun hm h2 h3 h4 => headM_said (by omega) (fun x => x hm) h2 h3 h4
  have HM5 : Hid (bs.take 16 = List.replicate 16 255 → ¬ (hdSize bs < 19 ∨ 4096 < hdSize bs) → ¬ (bs.getD 18 0 < 1 ∨ 4 < bs.getD 18 0) → ¬ (hdSize bs < leastOf (bs.getD 18 0) ∨ mostOf (bs.getD 18 0) < hdSize bs) → headM bs = (hdSize bs, 0, 0, [])) := fun hm h2 h3 h4 => headM_good (by omega) (fun x => x hm) h2 h3 h4
  have HD1 : Hid ((bs.drop 18).take 1 = [bs.getD 18 0]) := by
    show _ = _
    apply List.ext_getElem?
    intro i
    match i with
    | 0 => rw [List.getElem?_take_of_lt (by omega), List.getElem?_drop, List.getElem?_eq_getElem (by omega)]; simp [List.getD_eq_getElem?_getD, List.getElem?_eq_getElem (show 18 < bs.length by omega)]
    | i + 1 => simp; omega
  have HSE := hide (str_eq (bs.take 16) (by rw [List.length_take]; omega) (take_lt h.2 16))
  have HCV : Hid (∀ W, Below w.heap.size w W → (convert 22 9 (.slice (some ⟨b, o, none⟩) 16 c)).run Tryz.prog W = .ok (.string ⟨((bs.take 16).map UInt8.ofNat).toArray⟩) W) := fun W hW => by
    have h2 := brd_take (h.below hW) 16
    obtain ⟨b2, o2, e2, hc2⟩ := h2.1.2 (by rw [List.length_take]; omega)
    cases e2
    exact str_of W b o c 16 (bs.take 16) (by rw [List.length_take]; omega) h2.2 (fun i hi => hc2 i (by rw [List.length_take]; omega))
  have HB2 := hide br2
  have HL1 := hide hlen1
  have HL2 := hide hlen2
  have HN := hide hn
  clear hc h hS hlen1 hlen2 hs16 hs17 br2 hbm hbA hn
  generalize hkd : bs.getD 18 0 = kd at *
  generalize hszd : hdSize bs = sz at *
  clear hkd hszd
  go_enter Tryz.func20, Tryz.ntmps20
  go_wp2_with fail
  go_quiet ((go_at_call 38; exact Calls.quiet_of_same (K1.out _)))
  go_wp2_with fail
  refine (K2.out _).mono ?_
  rintro e w2 ⟨a9, c9, rfl, HO, HB, HX⟩
  have HBX : Hid (NtBox (w2.alloc (.cells #[.int .i64 1, .int .i64 2, .slice a9 2 c9] 38)) w.heap.size) := HX.out.below ((Below.refl w2.heap.size _).alloc (Nat.le_refl _) _) HX.out.1
  have hlt2 : w.heap.size < w2.heap.size := HX.out.1
  have hcv := HCV.out (w2.alloc (.cells #[.int .i64 1, .int .i64 2, .slice a9 2 c9] 38)) (HB.out.trans (((Below.refl _ _).alloc (Nat.le_refl _) _).mono HB.out.size))
  generalize (⟨((bs.take 16).map UInt8.ofNat).toArray⟩ : ByteArray) = S at *
  by_cases hq : S = ⟨#[255, 255, 255, 255, 255, 255, 255, 255, 255, 255, 255, 255, 255, 255, 255, 255]⟩
  · have hmk := hide (HSE.out.1 hq)
    clear HM1 HSE
    subst hq
    have hsd : SaidM (w2.alloc (.cells #[.int .i64 1, .int .i64 2, .slice a9 2 c9] 38)) := HS.out.below (HB.out.trans (((Below.refl _ _).alloc (Nat.le_refl _) _).mono HB.out.size))
    have cW : (w2.alloc (.cells #[.int .i64 1, .int .i64 2, .slice a9 2 c9] 38)).cell? ⟨b, o + 18, none⟩ = some (.int .u8 (kd : Int)) := by
      rw [(HB.out.trans (((Below.refl _ _).alloc (Nat.le_refl _) _).mono HB.out.size)).cell (p := ⟨b, o + 18, none⟩) zb]; exact c18
    have HSD := hide hsd
    have HBW : Hid (Below w.heap.size w (w2.alloc (.cells #[.int .i64 1, .int .i64 2, .slice a9 2 c9] 38))) := HB.out.trans (((Below.refl _ _).alloc (Nat.le_refl _) _).mono HB.out.size)
    obtain ⟨hz, r0, r1, r2, f0, f1, f2⟩ := HBX.out
    have x0 : (w2.alloc (.cells #[.int .i64 1, .int .i64 2, .slice a9 2 c9] 38)).cell? ⟨w2.heap.size, 0, none⟩ = some (.int .i64 1) := by simp [go_sem]
    have x1 : (w2.alloc (.cells #[.int .i64 1, .int .i64 2, .slice a9 2 c9] 38)).cell? ⟨w2.heap.size, 1, none⟩ = some (.int .i64 2) := by simp [go_sem]
    have x2 : (w2.alloc (.cells #[.int .i64 1, .int .i64 2, .slice a9 2 c9] 38)).cell? ⟨w2.heap.size, 2, none⟩ = some (.slice a9 2 c9) := by simp [go_sem]
    have hz2 : w2.heap.size < (w2.alloc (.cells #[.int .i64 1, .int .i64 2, .slice a9 2 c9] 38)).heap.size := by simp
    have HOW : Hid ((w2.alloc (.cells #[.int .i64 1, .int .i64 2, .slice a9 2 c9] 38)).ownsRow (w.heap.size + 1) 5 1 (.slice a9 2 c9) 2 (bcells ((bs.drop 16).take 2))) := HO.out.alloc _
    have HOB := hide (own_block HOW.out)
    clear hsd
    by_cases h2 : sz < 19 ∨ 4096 < sz
    · have HR := hide (HM2.out hmk.out h2)
      clear HM2 HM3 HM4 HM5
      have HE : Hid (∀ W u, Below w.heap.size w W → W.ownsRow (w.heap.size + 1) 5 1 (.slice a9 2 c9) 2 (bcells ((bs.drop 16).take 2)) → u = .agg #[.int .i64 1, .int .i64 2, .slice a9 2 c9] → HdIs w W (.returned (.tuple #[.int .i64 0, u])) (headM bs)) := fun W u hW ho hu => by
        rw [HR.out, hu]
        refine ⟨_, rfl, a9, c9, ?_, ?_⟩
        · simp only [HL2.out]; rfl
        · simp only [HL2.out]; exact own_low ho (by omega)
      have h2b : ((sz : Int) < 19) ∨ (¬ ((sz : Int) < 19) ∧ (4096 < (sz : Int))) := by omega
      clear h2
      rcases h2b with h2 | ⟨h2, h2'⟩
      · go_wp2_with fail
        generalize (w2.alloc (.cells #[.int .i64 1, .int .i64 2, .slice a9 2 c9] 38)) = W at *
        go_region
        go_wp2_with fail
        refine bodyPost_ret (v := .tuple #[.int .i64 0, .agg #[.int .i64 1, .int .i64 2, .slice a9 2 c9]]) (by simp [results, Tryz.results20, go_sem, r0, r1, r2]) rfl ⟨HE.out _ _ ?_ ?_ rfl, ?_⟩
        · exact below_drew3 HBW.out
        · exact own_set3 HOW.out (by omega)
        · exact below_drew3 HBW.out
      · go_wp2_with fail
        generalize (w2.alloc (.cells #[.int .i64 1, .int .i64 2, .slice a9 2 c9] 38)) = W at *
        go_region
        go_wp2_with fail
        refine bodyPost_ret (v := .tuple #[.int .i64 0, .agg #[.int .i64 1, .int .i64 2, .slice a9 2 c9]]) (by simp [results, Tryz.results20, go_sem, r0, r1, r2]) rfl ⟨HE.out _ _ ?_ ?_ rfl, ?_⟩
        · exact below_drew3 HBW.out
        · exact own_set3 HOW.out (by omega)
        · exact below_drew3 HBW.out
    · have hn1 : ¬ ((sz : Int) < 19) := by omega
      have hn2 : ¬ ((4096 : Int) < (sz : Int)) := by omega
      by_cases h3 : kd < 1 ∨ 4 < kd
      · have HR := hide (HM3.out hmk.out h2 h3)
        rw [HD1.out] at HR
        clear HM2 HM3 HM4 HM5 h2
        have HK : Hid (Calls Tryz.prog 21 #[.int .i64 1, .int .i64 3, .slice (some ⟨w2.heap.size + 1, 0, none⟩) 1 1] ((w2.alloc (.cells #[.int .i64 1, .int .i64 2, .slice a9 2 c9] 38)).alloc (.cells #[.int .u8 (kd : Int)] 5)) fun e w3 => ∃ a8 c8, e = .returned (.agg #[.int .i64 1, .int .i64 3, .slice a8 1 c8]) ∧ Hid (w3.ownsRow (w.heap.size + 1) 5 1 (.slice a8 1 c8) 1 (bcells [kd])) ∧ Hid (Below w.heap.size w w3) ∧ Hid (NtBox w3 w.heap.size)) := by
          have hba := (Below.refl (w2.alloc (.cells #[.int .i64 1, .int .i64 2, .slice a9 2 c9] 38)).heap.size (w2.alloc (.cells #[.int .i64 1, .int .i64 2, .slice a9 2 c9] 38))).alloc (Nat.le_refl _) (.cells #[.int .u8 (kd : Int)] 5)
          refine (noteof_box 1 3 (some ⟨w2.heap.size + 1, 0, none⟩) 1 1 [kd] _ w.heap.size rfl (by omega) ?_ (HBX.out.below hba hz)).mono ?_
          · refine ⟨⟨by simp [maxLen], fun _ => ⟨_, 0, rfl, fun i hi => ?_⟩⟩, by simp; omega⟩
            have : i = 0 := by simp at hi; omega
            subst this
            simp [go_sem]
          · rintro e w3 ⟨a8, c8, rfl, ho, hb, hx⟩
            refine ⟨a8, c8, rfl, own_low ho.out (by simp; omega), ?_, hx⟩
            exact (HBW.out.trans (hba.mono (by omega))).trans (hb.out.mono (by simp; omega))
        clear HBX HSD HOW HOB
        have h3b : ((kd : Int) < 1) ∨ (¬ ((kd : Int) < 1) ∧ (4 < (kd : Int))) := by omega
        clear h3
        rcases h3b with h3 | ⟨h3, h3'⟩
        · go_wp2_with fail
          with_reducible refine HK.out.mono ?_
          rintro e w3 ⟨a8, c8, rfl, HO3, HB3, HX3⟩
          obtain ⟨hz, r0, r1, r2, f0, f1, f2⟩ := HX3.out
          go_wp2_with fail
          refine bodyPost_ret (v := .tuple #[.int .i64 0, .agg #[.int .i64 1, .int .i64 3, .slice a8 1 c8]]) (by simp [results, Tryz.results20, go_sem, r0, r1, r2]) rfl ⟨?_, ?_⟩
          · rw [HR.out]
            refine ⟨_, rfl, a8, c8, rfl, own_low (own_under (own_under (own_under HO3.out ?_ _ _) ?_ _ _) ?_ _ _) ?_⟩ <;> omega
          · exact ((HB3.out.setCell (Nat.le_refl _) _).setCell (Nat.le_refl _) _).setCell (Nat.le_refl _) _
        · go_wp2_with fail
          with_reducible refine HK.out.mono ?_
          rintro e w3 ⟨a8, c8, rfl, HO3, HB3, HX3⟩
          obtain ⟨hz, r0, r1, r2, f0, f1, f2⟩ := HX3.out
          go_wp2_with fail
          refine bodyPost_ret (v := .tuple #[.int .i64 0, .agg #[.int .i64 1, .int .i64 3, .slice a8 1 c8]]) (by simp [results, Tryz.results20, go_sem, r0, r1, r2]) rfl ⟨?_, ?_⟩
          · rw [HR.out]
            refine ⟨_, rfl, a8, c8, rfl, own_low (own_under (own_under (own_under HO3.out ?_ _ _) ?_ _ _) ?_ _ _) ?_⟩ <;> omega
          · exact ((HB3.out.setCell (Nat.le_refl _) _).setCell (Nat.le_refl _) _).setCell (Nat.le_refl _) _
      · have k1 : 1 ≤ kd := by omega
        have k4 : kd ≤ 4 := by omega
        obtain ⟨s0, s1⟩ := HSD.out.at kd k1 k4
        have zg := HSD.out.pos
        have hle : leastOf kd ≤ 29 := by unfold leastOf; repeat (first | omega | split)
        have hmo : mostOf kd ≤ 4096 := by unfold mostOf; repeat (first | omega | split)
        have kd0 : (0 : Int) ≤ (kd : Int) := Int.natCast_nonneg _
        have kd5 : (kd : Int) < 5 := by omega
        have kn1 : ¬ ((kd : Int) < 1) := by omega
        have kn4 : ¬ ((4 : Int) < (kd : Int)) := by omega
        by_cases h4 : sz < leastOf kd ∨ mostOf kd < sz
        · have HR := hide (HM4.out hmk.out h2 h3 h4)
          clear HM2 HM3 HM4 HM5 h2 h3
          have HE : Hid (∀ W u, Below w.heap.size w W → W.ownsRow (w.heap.size + 1) 5 1 (.slice a9 2 c9) 2 (bcells ((bs.drop 16).take 2)) → u = .agg #[.int .i64 1, .int .i64 2, .slice a9 2 c9] → HdIs w W (.returned (.tuple #[.int .i64 0, u])) (headM bs)) := fun W u hW ho hu => by
            rw [HR.out, hu]
            refine ⟨_, rfl, a9, c9, ?_, ?_⟩
            · simp only [HL2.out]; rfl
            · simp only [HL2.out]; exact own_low ho (by omega)
          generalize leastOf kd = le at *
          generalize mostOf kd = mo at *
          have h4b : ((sz : Int) < (le : Int)) ∨ (¬ ((sz : Int) < (le : Int)) ∧ ((mo : Int) < (sz : Int))) := by omega
          clear h4
          rcases h4b with h4 | ⟨h4, h4'⟩
          · go_wp2_with fail
            generalize (w2.alloc (.cells #[.int .i64 1, .int .i64 2, .slice a9 2 c9] 38)) = W at *
            go_region
            go_wp2_with fail
            refine bodyPost_ret (v := .tuple #[.int .i64 0, .agg #[.int .i64 1, .int .i64 2, .slice a9 2 c9]]) (by simp [results, Tryz.results20, go_sem, r0, r1, r2]) rfl ⟨HE.out _ _ ?_ ?_ rfl, ?_⟩
            · exact below_drew3 HBW.out
            · exact own_set3 HOW.out (by omega)
            · exact below_drew3 HBW.out
          · go_wp2_with fail
            generalize (w2.alloc (.cells #[.int .i64 1, .int .i64 2, .slice a9 2 c9] 38)) = W at *
            go_region
            go_wp2_with fail
            refine bodyPost_ret (v := .tuple #[.int .i64 0, .agg #[.int .i64 1, .int .i64 2, .slice a9 2 c9]]) (by simp [results, Tryz.results20, go_sem, r0, r1, r2]) rfl ⟨HE.out _ _ ?_ ?_ rfl, ?_⟩
            · exact below_drew3 HBW.out
            · exact own_set3 HOW.out (by omega)
            · exact below_drew3 HBW.out
        · have HR := hide (HM5.out hmk.out h2 h3 h4)
          clear HM2 HM3 HM4 HM5 h2 h3
          have h4a : ¬ ((sz : Int) < (leastOf kd : Int)) := by omega
          have h4c : ¬ ((mostOf kd : Int) < (sz : Int)) := by omega
          generalize leastOf kd = le at *
          generalize mostOf kd = mo at *
          clear h4 r0 r1 r2 f0 f1 f2 hz x0 x1 x2
          obtain ⟨hz, r0, r1, r2, f0, f1, f2⟩ := HX.out
          go_wp2_with fail
          refine bodyPost_ret (v := .tuple #[.int .i64 (sz : Int), .agg #[.int .i64 0, .int .i64 0, .slice none 0 0]]) (by simp [results, Tryz.results20, go_sem, r0, r1, r2, hz]) rfl ⟨?_, ?_⟩
          · rw [HR.out]; exact ⟨_, rfl, none, 0, rfl, own_nil _ _ _ _⟩
          · exact (((HB.out.setCell (Nat.le_refl _) _).setCell (Nat.le_refl _) _).setCell (Nat.le_refl _) _).alloc (by simp; omega) _
  · have hmk := hide (HM1.out (fun h9 => hq (HSE.out.2 h9)))
    have hq2 : (S.toList == [255, 255, 255, 255, 255, 255, 255, 255, 255, 255, 255, 255, 255, 255, 255, 255]) = false := by
      rw [ByteArray.toList_eq, Bool.eq_false_iff]
      intro h9
      refine hq ?_
      obtain ⟨⟨l⟩⟩ := S
      rw [show l = [255, 255, 255, 255, 255, 255, 255, 255, 255, 255, 255, 255, 255, 255, 255, 255] from by simpa using h9]
    clear hq HSE HM1 HM2 HM3 HM4 HM5
    go_wp2_with fail
    refine (noteof_box 1 1 none 0 0 [] _ w.heap.size rfl (by omega) (brd_none _ _) HBX.out).mono ?_
    rintro e w3 ⟨a8, c8, rfl, HO3, HB3, HX3⟩
    obtain ⟨hz, r0, r1, r2, f0, f1, f2⟩ := HX3.out
    go_wp2_with fail
    refine bodyPost_ret (v := .tuple #[.int .i64 0, .agg #[.int .i64 1, .int .i64 1, .slice a8 0 c8]]) (by simp [results, Tryz.results20, go_sem, r0, r1, r2]) rfl ⟨?_, ?_⟩
    · rw [hmk.out]
      refine ⟨_, rfl, a8, c8, rfl, own_low (own_under (own_under (own_under HO3.out ?_ _ _) ?_ _ _) ?_ _ _) ?_⟩ <;> simp <;> omega
    · have h9 : Below w.heap.size w w3 := HB.out.trans ((((Below.refl w2.heap.size _).alloc (Nat.le_refl _) _).mono HB.out.size).trans (HB3.out.mono (by simp; omega)))
      exact ((h9.setCell (Nat.le_refl _) _).setCell (Nat.le_refl _) _).setCell (Nat.le_refl _) _
/-- Head, of any bytes. -/
theorem head_any (a : Option Addr) (c : Nat) (bs : List Nat) (w : World) (hl : bs.length ≤ 100000) (hcap : bs.length ≤ c) (h : BRd w a bs) (hS : SaidM w) :
    Calls Tryz.prog 20 #[.slice a bs.length c] w fun e w' => HdIs w w' e (headM bs) ∧ Below w.heap.size w w' := by
  by_cases h1 : bs.length < 19
  · rw [headM_short h1]; exact head_short a c _ w h1
  · obtain ⟨b, o, rfl, _⟩ := h.1.2 (by omega)
    exact head_rest b o c _ bs w rfl (by omega) hl hcap h hS
end Go.Proofs.YtkmfnafecdfedaaGreatDoor
