/- WalFull's walk. -/
import Derived.Test.YtbecchoidglaeaaAns04
import Derived.Test.YtbecchoidglaeaaSectors
namespace Go.Proofs.Ytbecchoidglaeaa
open Go.RowKit
set_option maxRecDepth 100000

/-- A log on a disk with power, and a row of bytes 0 beside it; all new since w0. -/
structure Beside (w0 wq : World) (B D bb k len : Nat) (g : Lg) (s : St) (F : Nat → Prop) : Prop where
  p : PLog wq B D g s F
  c : Calm s
  n : s.n = k
  row : Rw wq (some ⟨bb, 0, none⟩) len (fun _ => 0)
  lt : bb < wq.heap.size
  nf : ¬ F bb
  ne : bb ≠ B
  hF : ∀ b, F b → w0.heap.size ≤ b
  hB : w0.heap.size ≤ B
  bel : Below w0.heap.size w0 wq
theorem Beside.later {w0 wq w' : World} {B D bb k len : Nat} {g : Lg} {s : St} {F : Nat → Prop} (h : Beside w0 wq B D bb k len g s F) (hb : Below wq.heap.size wq w') : Beside w0 w' B D bb k len g s F :=
  { h with p := h.p.later hb, row := h.row.below hb, lt := Nat.lt_of_lt_of_le h.lt hb.size, bel := h.bel.trans (below_le hb h.bel.size) }
theorem Beside.step {w0 wq w' : World} {B D bb k len : Nat} {g g' : Lg} {s s' : St} {F F' : Nat → Prop} (h : Beside w0 wq B D bb k len g s F) (hp : PLog w' B D g' s' F') (hc : Calm s') (hn : s'.n = k) (hst : PStep B F F' wq w') : Beside w0 w' B D bb k len g' s' F' where
  p := hp
  c := hc
  n := hn
  row := h.row.keeps hst.1 (fun x hx _ hf => by injection hx with hx; subst hx; rcases hf with hf | hf; exact h.nf hf; exact h.ne hf)
  lt := Nat.lt_of_lt_of_le h.lt hst.1.size
  nf := fun hb => by rcases hst.2 bb hb with h1 | h1; exact h.nf h1; have := h.lt; omega
  ne := h.ne
  hF := (hst.below h.bel.size h.hF h.hB).2.1
  hB := h.hB
  bel := h.bel.trans (hst.below h.bel.size h.hF h.hB).1
/-- How many pages an entry has, by the document. -/
theorem sectors_len (len cap : Nat) (a : Option Addr) (w : World) (h : Rw w a len (fun _ => 0)) (hl : len ≤ 100000) (hcap : len ≤ cap) :
    Calls Try.prog 26 #[.int .i64 1, .slice a len cap] w fun e w' => ∃ a' c', e = .returned (.slice a' (cnt len) c') ∧ Below w.heap.size w w' := by
  refine (sectors_any 1 (by omega) a len cap (fun _ => 0) w h (fun _ _ => by show 0 < 256; omega) hl hcap).mono ?_
  rintro e w' ⟨v, rfl, ⟨pgs, ho, _⟩, hb⟩
  obtain ⟨a', c', rfl, _⟩ := own_of_none ho
  exact ⟨a', c', rfl, hb⟩
set_option maxHeartbeats 6400000 in
theorem walFull_in (n k0 K H C M P len : Nat) (w : World) (hn : n < 256) (hl : len < 256) (hk : (n : Int) % 60 = (k0 : Int)) (hK : (k0 : Int) + 8 = (K : Int)) (hH0 : H = half K) (hC : C = cnt len) (hM0 : M = H / C) (hP0 : P = M * C) :
    Calls Try.prog 6 #[.int .u8 (n : Int), .int .u8 (len : Int)] w fun e w' => e = .returned (.bool true) ∧ Below w.heap.size w w' := by
  have hKb : 8 ≤ K ∧ K ≤ 67 := by omega
  have hH : ((K : Int) - 2) / 2 = (H : Int) := by rw [hH0]; unfold half; omega
  have hHb : 3 ≤ H ∧ H ≤ 33 := by rw [hH0]; unfold half; omega
  have hCb : 1 ≤ C ∧ C ≤ 5 := by rw [hC]; unfold cnt; omega
  have hM : (H : Int) / (C : Int) = (M : Int) := by rw [hM0]; exact (Int.natCast_ediv H C).symm
  have hPP : (M : Int) * (C : Int) = (P : Int) := by rw [hP0]; exact (Int.natCast_mul M C).symm
  have hPb : P ≤ H ∧ H < P + C := by
    have h1 := Nat.div_add_mod H C
    have h2 := Nat.mod_lt H (show C > 0 by omega)
    rw [← hM0, Nat.mul_comm, ← hP0] at h1
    omega
  have hMb : M ≤ 33 := by rw [hM0]; exact Nat.le_trans (Nat.div_le_self _ _) (by omega)
  have HIC : Hid (∀ i, i < M → (i + 1) * C ≤ P) := fun i hi => by rw [hP0]; exact Nat.mul_le_mul_right C hi
  have HM0 : Hid (M = 0 ↔ H < C) := by
    show _ ↔ _
    rw [hM0]
    constructor
    · intro h
      rcases Nat.lt_or_ge H C with h1 | h1
      · exact h1
      · have := Nat.div_pos h1 (show 0 < C by omega); omega
    · intro h; exact Nat.div_eq_of_lt h
  have HB0 := hide (And.intro hKb (And.intro hHb (And.intro hCb (And.intro hPb hMb))))
  have HFR : Hid (fromOf K 1 = 2 + H ∧ toOf K 1 = 2 + H + H ∧ fromOf K 2 = 2 ∧ half K = H) := by
    refine ⟨?_, ?_, ?_, hH0.symm⟩
    · rw [hH0]; unfold fromOf; rw [if_neg (by omega)]
    · rw [hH0]; unfold toOf fromOf; rw [if_neg (by omega)]
    · unfold fromOf; rw [if_pos (by omega)]
  have HPC : Hid (P = M * C) := hP0
  have HC := hide hC
  have HO := hide (calm_new K (by omega))
  have hmk := fun w => run_make_bytes len (by omega) w
  have hC0 : (0 : Int) < (C : Int) := by omega
  have hC1 : (C : Int) ≤ 5 := by omega
  have hH1 : (H : Int) ≤ 33 := by omega
  have hK1 : (K : Int) ≤ 67 := by omega
  have hM1 : (M : Int) ≤ 33 := by omega
  have hP1 : (P : Int) ≤ 33 := by omega
  clear hH0 hM0 hP0 hC hKb hHb hCb hPb hMb
  go_enter Try.func6, Try.ntmps6
  go_wp2_with fail
  refine (new_any (K : Int) _ (by omega)).mono ?_
  rintro e w1 ⟨D, F, rfl, hd, hF, hb⟩
  have hcl : (clamp (K : Int) 1024).toNat = K := by have := HB0.out; unfold clamp; omega
  rw [hcl] at hd
  have HD := hide hd
  have HF := hide hF
  have HB := hide hb
  clear hd hF hb hcl
  go_wp2_with fail
  refine (open_ok HD.out (bts_made K) (by have := HB0.out; show 4 ≤ K; omega) (by have := HB0.out; show K ≤ 1024; omega) (by show 0 < 600000; omega) HO.out.1).mono ?_
  rintro e w2 ⟨B, v, rfl, F2, hp2, hst2, hB2, _⟩
  rw [HO.out.2.2.2.1, HFR.out.1] at hp2
  have HP2 := hide hp2
  have HS2 := hide (hst2.below (B := w.heap.size) HB.out.size HF.out)
  have HBB : Hid (w.heap.size ≤ B) := Nat.le_trans HB.out.size hB2
  clear hp2 hst2 hB2
  have HBS : Hid (∃ s F, Beside w (w2.alloc (.cells (valsOf (fun _ => 0) len).toArray 5)) B D w2.heap.size K len ⟨1, 2 + H, false⟩ s F) := by
    have hb3 : Below w2.heap.size w2 (w2.alloc (.cells (valsOf (fun _ => 0) len).toArray 5)) := (Below.refl _ _).alloc (Nat.le_refl _) _
    exact ⟨_, F2, { p := HP2.out.later hb3, c := HO.out.2.1, n := HO.out.2.2.1, row := rw_new w2 (fun _ => 0) len (by omega) _, lt := by simp, nf := fun hf => by have := HP2.out.d.lt _ hf; omega, ne := fun e => by have := HP2.out.l.lt; omega, hF := HS2.out.2.1, hB := HBB.out, bel := (HB.out.trans HS2.out.1).trans (below_le hb3 HS2.out.2.2) }⟩
  go_wp2_with fail
  rw [hH]
  obtain ⟨bb, hbb⟩ : ∃ bb, bb = w2.heap.size := ⟨_, rfl⟩
  rw [← hbb]
  rw [← hbb] at HBS
  generalize w2.alloc (.cells (valsOf (fun _ => 0) len).toArray 5) = w3 at *
  clear hbb hmk
  refine (sectors_len len len _ w3 (by obtain ⟨s, F, h⟩ := HBS.out; exact h.row) (by omega) (Nat.le_refl _)).mono ?_
  rintro e w4 ⟨a4, c4, rfl, hb4⟩
  have HBS4 : Hid (∃ s F, Beside w w4 B D bb K len ⟨1, 2 + H, false⟩ s F) := by obtain ⟨s, F, h⟩ := HBS.out; exact ⟨s, F, h.later hb4⟩
  rw [← HC.out]
  clear hb4
  go_wp2
  try rw [hM]
  go_loopw [13] (fun iv wq => ∃ i x : Nat, i ≤ M ∧ iv = .int .i64 (i : Int) ∧ Hid (x = 2 + H + i * C) ∧ Hid (∃ s F, Beside w wq B D bb K len ⟨1, x, false⟩ s F)) (fun iv _ => M - (intOf iv).toNat)
  case atStart => exact ⟨0, 2 + H, by omega, rfl, (by show 2 + H = 2 + H + 0 * C; omega), HBS4.out⟩
  case round =>
    obtain ⟨i, x, hi, rfl, HX, HS⟩ := hrel
    by_cases hlt : (i : Int) < (M : Int)
    · obtain ⟨s, F5, hs5⟩ := HS.out
      have HS5 := hide hs5
      clear hs5
      have hfit : fit s.n x (toOf s.n 1 : Int) len = true := by
        rw [HS5.out.n, HFR.out.2.1, fit_iff, ← HC.out]
        have h1 := HIC.out i (by omega)
        rw [Nat.succ_mul] at h1
        have := HX.out; have := HB0.out
        unfold half at *
        omega
      have HFT := hide hfit
      clear hfit
      go_wp2_with fail
      refine (append_calm HS5.out.p HS5.out.c rfl (by rw [HS5.out.n]; have := HB0.out; omega) (by rw [HS5.out.n]; have := HB0.out; omega) (by show 1 ≤ 2147483647; omega) _ len len (fun _ => 0) (by omega) (Nat.le_refl _) HS5.out.row (fun _ _ => by show 0 < 256; omega) (fun y hy _ => by injection hy with hy; subst hy; exact HS5.out.nf) HFT.out).mono ?_
      rintro e w6 ⟨rfl, F6, hp6, hst6⟩
      have HS6 : Hid (Beside w w6 B D bb K len ⟨1, x + cnt len, false⟩ (s.lay x (ent 1 (fun _ => 0) len) (cnt len)).1 F6) := HS5.out.step hp6 (calm_lay HS5.out.c x 1 (fun _ => 0) len (fun _ _ => by show 0 < 256; omega)).2.1 (by rw [lay_n]; exact HS5.out.n) hst6
      clear hp6 hst6
      go_wp2
      refine ⟨⟨i + 1, x + C, by omega, by go_num, (by show x + C = 2 + H + (i + 1) * C; rw [Nat.succ_mul]; have := HX.out; omega), ?_⟩, by simp [intOf]; omega⟩
      refine ⟨(s.lay x (ent 1 (fun _ => 0) len) (cnt len)).1, F6, ?_⟩
      have h6 := HS6.out
      rw [show x + C = x + cnt len from by rw [HC.out]]
      exact h6
    · have hiM : i = M := by omega
      have HXM : Hid (x = 2 + H + P) := by show _ = _; rw [HX.out, hiM, HPC.out]
      clear hiM
      obtain ⟨s, F5, hs5⟩ := HS.out
      have HS5 := hide hs5
      clear hs5
      have hfit : fit s.n x (toOf s.n 1 : Int) len = false := by
        cases hh : fit s.n x (toOf s.n 1 : Int) len with
        | false => rfl
        | true =>
          rw [HS5.out.n, HFR.out.2.1, fit_iff, ← HC.out] at hh
          have := HXM.out; have := HB0.out
          omega
      have HFT := hide hfit
      clear hfit
      go_wp2_with fail
      refine (append_over HS5.out.p HS5.out.c rfl (by rw [HS5.out.n]; have := HB0.out; omega) (by rw [HS5.out.n]; have := HB0.out; omega) (by show 1 ≤ 2147483647; omega) _ len len (fun _ => 0) (by omega) (Nat.le_refl _) HS5.out.row (fun _ _ => by show 0 < 256; omega) (fun y hy _ => by injection hy with hy; subst hy; exact HS5.out.nf) HFT.out).mono ?_
      rintro e w6 ⟨rfl, F6, hp6, hst6⟩
      have HS6 := hide (HS5.out.step hp6 HS5.out.c HS5.out.n hst6)
      clear hp6 hst6
      go_wp2_with fail
      refine (used_in HS6.out.p (by rw [HS6.out.n]; have := HB0.out; omega) (by rw [HS6.out.n]; have := HB0.out; omega) (by rw [HS6.out.n]; have := HB0.out; have := HXM.out; have h2 := HFR.out.2.2.2; show x ≤ K; unfold half at h2; omega)).mono ?_
      rintro e w7 ⟨rfl, k7, rfl⟩
      have HS7 := hide (HS6.out.later (below_drewN (Below.refl _ _) k7))
      have hU : (((⟨1, x, false⟩ : Lg).at_ : Nat) : Int) - ((fromOf s.n (⟨1, x, false⟩ : Lg).gen : Nat) : Int) = (P : Int) := by
        show (x : Int) - ((fromOf s.n 1 : Nat) : Int) = (P : Int)
        rw [HS6.out.n, HFR.out.1, HXM.out]; omega
      rw [hU]
      clear hU
      generalize w6.drewN k7 = w7 at *
      by_cases hM00 : M = 0
      · have HMC := hide (HM0.out.1 hM00)
        have eM : ((M : Int) == 0) = true := by rw [beq_iff_eq]; omega
        clear hM00
        go_wp2_with fail
        refine (check_over HS7.out.p HS7.out.c rfl (by rw [HS7.out.n]; have := HB0.out; omega) (by rw [HS7.out.n]; have := HB0.out; omega) _ len len (fun _ => 0) (by omega) (Nat.le_refl _) HS7.out.row (fun _ _ => by show 0 < 256; omega) (fun y hy _ => by injection hy with hy; subst hy; exact HS7.out.nf) (by rw [HS7.out.n, HFR.out.2.2.2, ← HC.out]; exact HMC.out)).mono ?_
        rintro e w8 ⟨rfl, F8, hp8, hst8⟩
        have HS8 := hide (HS7.out.step hp8 HS7.out.c HS7.out.n hst8)
        clear hp8 hst8
        go_wp2_with fail
        refine (answers_any _).mono ?_
        rintro e w9 ⟨rfl, hb9⟩
        have HS9 := hide (HS8.out.later hb9)
        clear hb9
        go_wp2_with fail
        refine (sectors_len len len _ w9 HS9.out.row (by omega) (Nat.le_refl _)).mono ?_
        rintro e wA ⟨aA, cA, rfl, hbA⟩
        have HSA := hide (HS9.out.later hbA)
        rw [← HC.out]
        clear hbA
        go_wp2
        go_ret
        exact ⟨rfl, HSA.out.bel⟩
      · have HMC : Hid (C ≤ H) := by
          show C ≤ H
          rcases Nat.lt_or_ge H C with h1 | h1
          · exact absurd (HM0.out.2 h1) hM00
          · exact h1
        have eM : ((M : Int) == 0) = false := by rw [beq_eq_false_iff_ne]; omega
        clear hM00
        go_wp2_with fail
        refine (check_calm HS7.out.p HS7.out.c rfl (by rw [HS7.out.n]; have := HB0.out; omega) (by rw [HS7.out.n]; have := HB0.out; omega) (by show 1 < 2147483647; omega) _ len len (fun _ => 0) (by omega) (Nat.le_refl _) HS7.out.row (fun _ _ => by show 0 < 256; omega) (fun y hy _ => by injection hy with hy; subst hy; exact HS7.out.nf) (by rw [HS7.out.n, HFR.out.2.2.2, ← HC.out]; exact HMC.out)).mono ?_
        rintro e w8 ⟨rfl, F8, hp8, hst8⟩
        have hcc := calm_check HS7.out.c 2 (fun _ => 0) len (by rw [HS7.out.n]; have := HB0.out; omega) (fun _ _ => by show 0 < 256; omega) (by rw [HS7.out.n, HFR.out.2.2.2, ← HC.out]; exact HMC.out)
        have hp8' : PLog w8 B D ⟨2, 2 + C, false⟩ (checkSt s 2 (fun _ => 0) len).1 F8 := by
          have h1 : PLog w8 B D ⟨2, fromOf s.n 2 + cnt len, false⟩ (checkSt s 2 (fun _ => 0) len).1 F8 := hp8
          rw [HS7.out.n, HFR.out.2.2.1, ← HC.out] at h1
          exact h1
        have HS8 := hide (HS7.out.step hp8' hcc.2.1 (hcc.2.2.1.trans HS7.out.n) hst8)
        clear hp8 hp8' hst8 hcc
        go_wp2_with fail
        refine (answers_any _).mono ?_
        rintro e w9 ⟨rfl, hb9⟩
        have HS9 := hide (HS8.out.later hb9)
        clear hb9
        go_wp2_with fail
        refine (sectors_len len len _ w9 HS9.out.row (by omega) (Nat.le_refl _)).mono ?_
        rintro e wA ⟨aA, cA, rfl, hbA⟩
        have HSA := hide (HS9.out.later hbA)
        rw [← HC.out]
        clear hbA
        go_wp2_with fail
        refine (gen_in HSA.out.p.l).mono ?_
        rintro e wB ⟨rfl, hwB⟩
        subst hwB
        rw [show (((⟨2, 2 + C, false⟩ : Lg).gen : Nat) : Int) = 2 from rfl]
        go_wp2_with fail
        refine (used_in HSA.out.p (by rw [HSA.out.n]; have := HB0.out; omega) (by rw [HSA.out.n]; have := HB0.out; omega) (by rw [HSA.out.n]; have := HB0.out; have := HMC.out; have h2 := HFR.out.2.2.2; show 2 + C ≤ K; unfold half at h2; omega)).mono ?_
        rintro e wC ⟨rfl, kC, rfl⟩
        have HSC := hide (HSA.out.later (below_drewN (Below.refl _ _) kC))
        have hU : (((⟨2, 2 + C, false⟩ : Lg).at_ : Nat) : Int) - ((fromOf (checkSt s 2 (fun _ => 0) len).1.n (⟨2, 2 + C, false⟩ : Lg).gen : Nat) : Int) = (C : Int) := by
          show ((2 + C : Nat) : Int) - ((fromOf (checkSt s 2 (fun _ => 0) len).1.n 2 : Nat) : Int) = (C : Int)
          rw [HSA.out.n, HFR.out.2.2.1]; omega
        rw [hU]
        clear hU
        go_wp2_with fail
        refine (sectors_len len len _ _ HSC.out.row (by omega) (Nat.le_refl _)).mono ?_
        rintro e wD ⟨aD, cD, rfl, hbD⟩
        have HSD := hide (HSC.out.later hbD)
        rw [← HC.out]
        clear hbD
        go_wp2
        go_ret
        exact ⟨rfl, HSD.out.bel⟩
theorem walFull_walk (a0 : Int) (a1 : Int) (w0 : (Lit.int .u8 a0).wf = true) (w1 : (Lit.int .u8 a1).wf = true) (w : World) :
    Calls Try.prog 6 #[.int .u8 a0, .int .u8 a1] w fun e w' => e = .returned (.bool true) ∧ Below w.heap.size w w' := by
  have h0 := bounds_u8 w0
  have h1 := bounds_u8 w1
  obtain ⟨n, rfl⟩ := Int.eq_ofNat_of_zero_le h0.1
  obtain ⟨len, rfl⟩ := Int.eq_ofNat_of_zero_le h1.1
  exact walFull_in n (n % 60) (n % 60 + 8) _ _ _ _ len w (by omega) (by omega) (by omega) (by omega) rfl rfl rfl rfl
end Go.Proofs.Ytbecchoidglaeaa
