/- SectorLands's walk. -/
import Derived.Test.YtcpedecigmmbiaaFoot
namespace Go.Proofs.Ytcpedecigmmbiaa
open Go.RowKit
set_option linter.unusedVariables false

/-- The greatest number i + 1 of a kept Write of sector c among the first j, or 0. -/
def wantN (f : Nat → Nat) (keep c : Nat) : Nat → Nat
  | 0 => 0
  | j + 1 => if f j % 8 = c ∧ keep / 2 ^ (j % 64) % 2 = 1 then j + 1 else wantN f keep c j
theorem wantN_le (f : Nat → Nat) (keep c : Nat) : ∀ j, wantN f keep c j ≤ j
  | 0 => Nat.le_refl _
  | j + 1 => by
    have := wantN_le f keep c j
    unfold wantN
    split <;> omega
def writesOf (f : Nat → Nat) (j : Nat) : List (Nat × (Nat → Nat)) := (List.range j).map fun i => (f i % 8, fill (fun _ => i + 1) 1)
theorem writesOf_succ (f : Nat → Nat) (j : Nat) : writesOf f (j + 1) = writesOf f j ++ [(f j % 8, fill (fun _ => j + 1) 1)] := by simp [writesOf, List.range_succ]
theorem writesOf_get (f : Nat → Nat) (n i : Nat) (h : i < n) : (writesOf f n)[i]? = some (f i % 8, fill (fun _ => i + 1) 1) := by simp [writesOf, h]
theorem landed_want (f : Nat → Nat) (keep n : Nat) (c q : Nat) (hq : q < 64) : ∀ j, j ≤ n → lay (fun i => lands i keep (-1) 0) (writesOf f n) (fun _ _ => 0) j c q = fill (fun _ => wantN f keep c j) 1 q
  | 0, _ => by simp [lay, wantN, fill]
  | j + 1, hj => by
    rw [lay_succ _ _ _ j _ (writesOf_get f n j (by omega))]
    unfold putPage
    have e0 : ¬ ((j : Int) = -1) := by omega
    have ih := landed_want f keep n c q hq j (by omega)
    by_cases hb : keep / 2 ^ (j % 64) % 2 = 1
    · have el : lands j keep (-1) 0 = 64 := by unfold lands; rw [if_neg e0, if_pos hb]
      simp only [el]
      by_cases hc : c = f j % 8
      · rw [if_pos ⟨hc, hq⟩]
        unfold wantN
        rw [if_pos ⟨hc.symm, hb⟩]
      · rw [if_neg (fun h => hc h.1), ih]
        unfold wantN
        rw [if_neg (fun h => hc h.1.symm)]
        cases j <;> rfl
    · have el : lands j keep (-1) 0 = 0 := by unfold lands; rw [if_neg e0, if_neg hb]
      simp only [el]
      rw [if_neg (fun h => by have := h.2; omega), ih]
      conv => rhs; unfold wantN
      rw [if_neg (fun h => hb h.2)]

theorem bit_mod (keep k : Nat) : ((keep : Int) / 2 ^ k).tmod 2 = ((keep / 2 ^ k % 2 : Nat) : Int) := by
  rw [show ((keep : Int) / 2 ^ k) = ((keep / 2 ^ k : Nat) : Int) from by norm_cast]
  rfl
/-- The eight numbers in block b. -/
def Want (w : World) (b : Nat) (g : Nat → Nat) : Prop := b < w.heap.size ∧ ∀ c, c < 8 → w.cell? ⟨b, c, none⟩ = some (.int .i64 (g c : Int)) ∧ w.frozen? ⟨b, c, none⟩ = false
theorem Want.of_block {w w' : World} {b : Nat} {g : Nat → Nat} (h : Want w b g) (hs : b < w'.heap.size) (hb : w'.heap[b]? = w.heap[b]?) : Want w' b g :=
  ⟨hs, fun c hc => ⟨by rw [World.cell?_of_block (w := w) (by exact hb)]; exact (h.2 c hc).1, by rw [World.frozen?_of_block (w := w) (by exact hb)]; exact (h.2 c hc).2⟩⟩
theorem Want.later {w w' : World} {b : Nat} {g : Nat → Nat} (h : Want w b g) (hb : Below w.heap.size w w') : Want w' b g := h.of_block (Nat.lt_of_lt_of_le h.1 hb.size) (hb.block b h.1)
theorem Want.congr {w : World} {b : Nat} {g g' : Nat → Nat} (h : Want w b g) (e : ∀ c, c < 8 → g c = g' c) : Want w b g' := ⟨h.1, fun c hc => by rw [← e c hc]; exact h.2 c hc⟩
theorem Want.set {w : World} {b : Nat} {g : Nat → Nat} (h : Want w b g) (x : Nat) (hx : x < 8) (n : Nat) : Want (w.setCell ⟨b, x, none⟩ (.int .i64 (n : Int))) b (fun c => if c = x then n else g c) := by
  refine ⟨by simpa using h.1, fun c hc => ⟨?_, by rw [World.frozen?_setCell]; exact (h.2 c hc).2⟩⟩
  show _ = some (Value.int .i64 ((if c = x then n else g c : Nat) : Int))
  by_cases e : c = x
  · subst e
    rw [World.cell?_setCell_same _ _ _ (h.2 c hc).1, if_pos rfl]
  · rw [World.cell?_setCell_other _ _ _ _ (by intro h; injection h with _ h2 _; omega), if_neg e]
    exact (h.2 c hc).1
theorem want_new (w : World) (t : TypeId) : Want (w.alloc (.cells #[.int .i64 0, .int .i64 0, .int .i64 0, .int .i64 0, .int .i64 0, .int .i64 0, .int .i64 0, .int .i64 0] t)) w.heap.size (fun _ => 0) := by
  refine ⟨by simp, fun c hc => ⟨?_, ?_⟩⟩
  · rw [World.cell?_alloc_mark]
    match c, hc with
    | 0, _ | 1, _ | 2, _ | 3, _ | 4, _ | 5, _ | 6, _ | 7, _ => rfl
  · have hb := heap_alloc_last w (.cells #[.int .i64 0, .int .i64 0, .int .i64 0, .int .i64 0, .int .i64 0, .int .i64 0, .int .i64 0, .int .i64 0] t)
    rw [World.frozen?]; simp only [hb]; simp
theorem rw_byte (w : World) (v : Int) (b : Nat) (hv : v = (b : Int)) : Rw (w.alloc (.cells #[.int .u8 v] 5)) (some ⟨w.heap.size, 0, none⟩) 1 (fun _ => b) := by
  subst hv
  refine ⟨by decide, fun _ => ⟨w.heap.size, 0, rfl, fun i hi => ?_⟩⟩
  obtain rfl : i = 0 := by omega
  rw [World.cell?_alloc_mark]
  rfl
/-- What holds of the disk and the eight numbers when j sectors were written. -/
def LandsAt (w wq : World) (D b : Nat) (f : Nat → Nat) (keep j : Nat) : Prop :=
  ∃ s F, Disk wq D s F ∧ s.n = 8 ∧ (s.fused = false ∧ s.down = false) ∧ s.lasts = (fun _ _ => 0) ∧ s.lo = writesOf f j ∧ (∀ x, F x → w.heap.size ≤ x) ∧ ¬ F b ∧ Want wq b (fun c => wantN f keep c j) ∧ Below w.heap.size w wq ∧ w.heap.size ≤ b

set_option maxRecDepth 100000 in
set_option maxHeartbeats 1600000 in
theorem sectorLands_some (a0 : Option Addr) (len0 cap0 : Nat) (f : Nat → Nat) (keep : Nat) (w : World) (hr : Rw w a0 len0 f) (hf : ∀ i, i < len0 → f i < 256) (hkeep : keep < 18446744073709551616) (hl : len0 ≤ 70) :
    Calls Try.prog 8 #[.slice a0 len0 cap0, .int .u64 (keep : Int)] w fun e w' => e = .returned (.bool true) ∧ Below w.heap.size w w' := by
  have HR := hide hr
  have HF := hide hf
  clear hr hf
  go_enter Try.func8, Try.ntmps8
  go_wp2_with fail
  refine (new_any 8 _ (by omega)).mono ?_
  rintro e w1 ⟨D, F, rfl, hd1, hF1, hb1⟩
  have HD1 := hide hd1
  have HF1 := hide hF1
  have HB1 := hide hb1
  clear hd1 hF1 hb1
  go_wp2
  have HW0 : Hid (LandsAt w (w1.alloc (Obj.cells #[.int .i64 0, .int .i64 0, .int .i64 0, .int .i64 0, .int .i64 0, .int .i64 0, .int .i64 0, .int .i64 0] 47)) D w1.heap.size f keep 0) :=
    ⟨_, F, HD1.out.alloc _, rfl, ⟨rfl, rfl⟩, rfl, rfl, HF1.out, fun h => by have := HD1.out.lt _ h; omega, (want_new w1 _).congr (fun c _ => rfl), HB1.out.trans (below_le ((Below.refl _ _).alloc (Nat.le_refl _) _) HB1.out.size), HB1.out.size⟩
  clear HD1 HF1 HB1
  generalize w1.heap.size = b at *
  go_loopw [7] (fun i wq => ∃ j : Nat, j ≤ len0 ∧ i = .int .i64 j ∧ LandsAt w wq D b f keep j) (fun i _ => len0 - (intOf i).toNat)
  case atStart => exact ⟨0, Nat.zero_le _, rfl, HW0.out⟩
  case round =>
    clear HW0
    obtain ⟨j, hj, rfl, hla⟩ := hrel
    by_cases hlt : j < len0
    · obtain ⟨s, F1, hd, hs1, hs2, hs3, hs4, hF, hFb, hwant, hbel, hwb⟩ := hla
      obtain ⟨b', off, rfl, hc⟩ := (HR.out.below hbel).2 (by omega)
      have c1 := hc j hlt
      have hfj := HF.out j hlt
      clear hc
      obtain ⟨x, hx, hxx⟩ : ∃ x : Nat, ((f j : Nat) : Int) % 8 = (x : Int) ∧ x = f j % 8 := ⟨f j % 8, by omega, rfl⟩
      have hx8 : x < 8 := by omega
      have HXX := hide hxx
      have HD := hide hd
      have H1 := hide hs1
      have H2 := hide hs2
      have H3 := hide hs3
      have H4 := hide hs4
      have H5 := hide hF
      have H6 := hide hFb
      have HWa := hide hwant
      have HBl := hide hbel
      have hj0 : (0 : Int) ≤ (j : Int) := Int.natCast_nonneg _
      have hj1 : (j : Int) < (len0 : Int) := by omega
      clear hxx hd hs1 hs2 hs3 hs4 hF hFb hwant hbel
      go_wp2_with fail
      refine (disk_write (HD.out.alloc _) (x : Int) (by omega) (by rw [H1.out]; omega) _ 1 _ (fun _ => j + 1) (by omega) (by simp [St.power, H2.out.1, H2.out.2]) (by rw [H4.out]; simp [writesOf]; omega) (rw_byte wr _ (j + 1) (by omega)) (fun x hx _ => by have := HD.out.D.2; simp at hx; subst hx; simp; omega)).mono ?_
      rintro e w3 ⟨rfl, F3, hd3, hst⟩
      have hsz : b < (wr.alloc (Obj.cells #[Value.int .u8 ((j : Int) + 1)] 5)).heap.size := by simp; have := HWa.out.1; omega
      have hot := hst.other hsz H6.out
      have HW3 : Hid (Want w3 b (fun c => wantN f keep c j)) := ((HWa.out.later ((Below.refl _ _).alloc (Nat.le_refl _) _))).of_block hot.2.2 hot.1
      have hbl := hst.below (B := w.heap.size) (by simp; have := HBl.out.size; omega) H5.out
      have HB3 : Hid (Below w.heap.size w w3) := (HBl.out.trans (below_le ((Below.refl _ _).alloc (Nat.le_refl _) _) HBl.out.size)).trans hbl.1
      have HD3 := hide hd3
      have HF3 := hide hbl.2.1
      have HN3 := hide hot.2.1
      clear hsz hot hbl hst hd3 HWa HBl H5 H6 HD
      have hlo : Hid ((s.spent.write x (fill (fun _ => j + 1) 1)).lo = writesOf f (j + 1)) := by
        rw [writesOf_succ, ← HXX.out, ← H4.out]; rfl
      by_cases hbit : keep / 2 ^ (j % 64) % 2 = 1
      · have hbb : (((keep : Int) / 2 ^ (j % 64)).tmod 2 == 1) = true := by rw [bit_mod, hbit]; rfl
        have cx := (HW3.out.2 x hx8).1
        have fx := (HW3.out.2 x hx8).2
        have hxi0 : (0 : Int) ≤ (x : Int) := Int.natCast_nonneg _
        have hxi1 : (x : Int) < 8 := by omega
        have HLA : Hid (LandsAt w (w3.setCell ⟨b, x, none⟩ (.int .i64 ((j : Int) + 1))) D b f keep (j + 1)) := by
          have hk : Keeps (fun q => q = b) w3 (w3.setCell ⟨b, x, none⟩ (.int .i64 ((j : Int) + 1))) := (Keeps.refl _ _).setCell b x _ (.inl rfl)
          refine ⟨s.spent.write x (fill (fun _ => j + 1) 1), F3, HD3.out.keeps hk (fun q hq e => by subst e; exact HN3.out hq), H1.out, ⟨H2.out.1, by simp [St.write, St.spent, St.power, H2.out.1, H2.out.2]⟩, H3.out, hlo.out, HF3.out, HN3.out, ?_, HB3.out.trans (hk.below _ (by have := HB3.out.size; omega) (fun q e => by subst e; exact hwb)), hwb⟩
          have := HW3.out.set x hx8 (j + 1)
          rw [show (((j + 1 : Nat)) : Int) = (j : Int) + 1 from by omega] at this
          refine this.congr (fun c _ => ?_)
          conv => rhs; unfold wantN
          by_cases hcx : c = x
          · rw [if_pos hcx, if_pos ⟨by rw [hcx, HXX.out], hbit⟩]
          · rw [if_neg hcx, if_neg (fun h => hcx (by rw [← h.1, HXX.out]))]
        clear HW3 HB3 HD3 HF3 HN3
        go_wp2
        exact ⟨⟨j + 1, by omega, by go_num, HLA.out⟩, by simp [intOf]; omega⟩
      · have hbb : (((keep : Int) / 2 ^ (j % 64)).tmod 2 == 1) = false := by
          rw [bit_mod, beq_eq_false_iff_ne]
          intro h
          exact hbit (Int.ofNat.inj h)
        have HLA : Hid (LandsAt w w3 D b f keep (j + 1)) := by
          refine ⟨s.spent.write x (fill (fun _ => j + 1) 1), F3, HD3.out, H1.out, ⟨H2.out.1, by simp [St.write, St.spent, St.power, H2.out.1, H2.out.2]⟩, H3.out, hlo.out, HF3.out, HN3.out, HW3.out.congr (fun c _ => ?_), HB3.out, hwb⟩
          conv => rhs; unfold wantN
          rw [if_neg (fun h => hbit h.2)]
        clear HW3 HB3 HD3 HF3 HN3
        go_wp2
        exact ⟨⟨j + 1, by omega, by go_num, HLA.out⟩, by simp [intOf]; omega⟩
    · obtain ⟨s, F1, hd, hs1, hs2, hs3, hs4, hF, hFb, hwant, hbel, hwb⟩ := hla
      have hjl : j = len0 := by omega
      have HJ := hide hjl
      have HD := hide hd
      have H1 := hide hs1
      have HLO : Hid (∀ c q, q < 64 → s.landed keep (-1) 0 s.lo.length c q = fill (fun _ => wantN f keep c len0) 1 q) := by
        intro c q hq
        unfold St.landed
        rw [hs3, hs4, hjl, show (writesOf f len0).length = len0 from by simp [writesOf]]
        exact landed_want f keep len0 c q hq len0 (Nat.le_refl _)
      have H5 := hide hF
      have H6 := hide hFb
      have HWa := hide hwant
      have HBl := hide hbel
      clear hjl hd hs1 hs2 hs3 hs4 hF hFb hwant hbel
      go_wp2_with fail
      refine (disk_crash HD.out (keep : Int) (-1) 0 (by omega) (by omega) (by omega)).mono ?_
      rintro e w4 ⟨rfl, F4, hd4, hst⟩
      have hot := hst.other HWa.out.1 H6.out
      have HW4 : Hid (Want w4 b (fun c => wantN f keep c len0)) := by
        have := HWa.out.of_block hot.2.2 hot.1
        rwa [HJ.out] at this
      have hbl := hst.below (B := w.heap.size) HBl.out.size H5.out
      have HB4 : Hid (Below w.heap.size w w4) := HBl.out.trans hbl.1
      rw [Int.toNat_natCast] at hd4
      have HD4 := hide hd4
      have HN4 : Hid ((s.crash keep (-1) 0).n = 8) := H1.out
      have HL4 : Hid (∀ c q, q < 64 → (s.crash keep (-1) 0).now c q = fill (fun _ => wantN f keep c len0) 1 q) := HLO.out
      clear hot hbl hst hd4 HWa HBl H5 H6 HD H1 HLO HJ
      generalize s.crash keep (-1) 0 = s4 at *
      go_wp2
      go_loopw [9] (fun i wq => ∃ c : Nat, c ≤ 8 ∧ i = .int .i64 c ∧ Disk wq D s4 F4 ∧ Want wq b (fun c => wantN f keep c len0) ∧ Below w.heap.size w wq) (fun i _ => 8 - (intOf i).toNat)
      case atStart => exact ⟨0, Nat.zero_le _, rfl, HD4.out, HW4.out, HB4.out⟩
      case round =>
        clear HD4 HW4 HB4
        obtain ⟨c, hc, rfl, hd, hwant, hbel⟩ := hrel
        have HD := hide hd
        have HWa := hide hwant
        have HBl := hide hbel
        clear hd hwant hbel
        by_cases hc8 : c < 8
        · go_wp2_with fail
          refine (disk_read HD.out (c : Int) (by omega) (by rw [HN4.out]; omega)).mono ?_
          rintro e w5 ⟨bx, rfl, hx, hlx, hb5⟩
          rw [Int.toNat_natCast] at hx
          have HX := hide hx
          have HD5 := hide (HD.out.later hb5)
          have HW5 := hide (HWa.out.later hb5)
          have HB5 := hide (HBl.out.trans (below_le hb5 HBl.out.size))
          have cc : w5.cell? ⟨b, c, none⟩ = some (.int .i64 (wantN f keep c len0 : Int)) := (HW5.out.2 c hc8).1
          have hv := wantN_le f keep c len0
          have HEQ : Hid (∀ q, q < 64 → s4.now c q = fill (fun _ => wantN f keep c len0) 1 q) := fun q hq => HL4.out c q hq
          have hc0 : (0 : Int) ≤ (c : Int) := Int.natCast_nonneg _
          have hc1 : (c : Int) < 8 := by omega
          generalize wantN f keep c len0 = v at *
          have hv1 : (v : Int) ≤ 70 := by omega
          clear hx hb5 HD HWa HBl
          go_wp2_with fail
          refine (fill_any _ 1 _ (fun _ => v) _ (by omega) (rw_byte w5 _ v rfl)).mono ?_
          rintro e w6 ⟨bf, rfl, hf6, hl6, hb6⟩
          have hb56 : Below w5.heap.size w5 w6 := ((Below.refl _ _).alloc (Nat.le_refl _) _).trans (below_le hb6 (by simp))
          have HD6 := hide (HD5.out.later hb56)
          have HW6 := hide (HW5.out.later hb56)
          have HB6 := hide (HB5.out.trans (below_le hb56 HB5.out.size))
          have HX6 := hide (HX.out.below hb56)
          have HF6 := hide hf6
          clear hb56 hb6 hf6 HD5 HW5 HB5 HX
          go_wp2_with fail
          refine (same_any _ _ 64 64 64 _ _ _ HX6.out HF6.out HEQ.out).mono ?_
          rintro e w7 ⟨rfl, hb7⟩
          have HD7 := hide (HD6.out.later hb7)
          have HW7 := hide (HW6.out.later hb7)
          have HB7 := hide (HB6.out.trans (below_le hb7 HB6.out.size))
          clear hb7 HD6 HW6 HB6 HX6 HF6
          go_wp2
          exact ⟨⟨c + 1, by omega, by go_num, HD7.out, HW7.out, HB7.out⟩, by simp [intOf]; omega⟩
        · go_wp2_with fail
          refine (answers_any _).mono ?_
          rintro e w5 ⟨rfl, hb5⟩
          go_wp2
          go_ret
          exact ⟨rfl, HBl.out.trans (below_le hb5 HBl.out.size)⟩
set_option maxRecDepth 100000 in
set_option maxHeartbeats 400000 in
theorem sectorLands_long (a0 : Option Addr) (len0 cap0 : Nat) (a1 : Int) (w : World) (hl : 70 < len0) :
    Calls Try.prog 8 #[.slice a0 len0 cap0, .int .u64 a1] w fun e w' => e = .returned (.bool true) ∧ Below w.heap.size w w' := by
  go_enter Try.func8, Try.ntmps8
  go_wp2_with fail
  refine (answers_any _).mono ?_
  rintro e w1 ⟨rfl, hb⟩
  go_wp2
  go_ret
  exact ⟨rfl, hb⟩
theorem sectorLands_walk (a0 : Option Addr) (len0 cap0 : Nat) (z0 : List Int) (a1 : Int) (w : World) (w0 : IsRow .u8 w a0 len0 cap0 z0) (w1 : (Lit.int .u64 a1).wf = true) :
    Calls Try.prog 8 #[.slice a0 len0 cap0, .int .u64 a1] w fun e w' => e = .returned (.bool true) ∧ Below w.heap.size w w' := by
  obtain ⟨hr0, hf0⟩ := rw_of w0
  have hb1 := bounds_u64 w1
  by_cases hl : 70 < len0
  · exact sectorLands_long a0 len0 cap0 a1 w hl
  · obtain ⟨k, rfl⟩ := Int.eq_ofNat_of_zero_le hb1.1
    exact sectorLands_some a0 len0 cap0 _ k w hr0 hf0 (by omega) (by omega)
end Go.Proofs.Ytcpedecigmmbiaa
