/- RegionTorn's walk. -/
import Derived.Test.YtolbifboibjgcaaWRegionOther
namespace Go.Proofs.Ytolbifboibjgcaa
open Go.RowKit

/-- One of two. -/
def two {α : Type} (x y : α) (i : Nat) : α := if i = 0 then x else y
theorem rows_lit2 (w : World) (a : Option Addr) (l c : Nat) (f : Nat → Nat) (a' : Option Addr) (l' c' : Nat) (f' : Nat → Nat) (h : Rw w a l f) (h' : Rw w a' l' f') : RowsRd (w.alloc (.cells #[.slice a l c, .slice a' l' c'] 39)) (.slice (some ⟨w.heap.size, 0, none⟩) 2 2) 2 (two l l') (two f f') := by
  refine ⟨_, _, rfl, by omega, fun _ => ⟨w.heap.size, rfl, fun i hi => ?_⟩⟩
  match i, hi with
  | 0, _ => exact ⟨a, c, by rw [World.cell?_alloc_mark]; rfl, h.below ((Below.refl _ _).alloc (Nat.le_refl _) _)⟩
  | 1, _ => exact ⟨a', c', by rw [World.cell?_alloc_mark]; rfl, h'.below ((Below.refl _ _).alloc (Nat.le_refl _) _)⟩
theorem rd_two {w : World} {v : Value} {L : Nat → Nat} {G : Nat → Nat → Nat} (h : RowsRd w v 2 L G) {a b : Nat} {f g : Nat → Nat} (h0 : L 0 = a) (h1 : L 1 = b) (g0 : ∀ j, j < a → G 0 j = f j) (g1 : ∀ j, j < b → G 1 j = g j) : RowsRd w v 2 (two a b) (two f g) := by
  refine h.congr (fun i hi => ?_) (fun i hi j hj => ?_)
  · match i, hi with
    | 0, _ => exact h0
    | 1, _ => exact h1
  · match i, hi, hj with
    | 0, _, hj => exact g0 j (h0 ▸ hj)
    | 1, _, hj => exact g1 j (h1 ▸ hj)
theorem lay_cases (s : St) (at_ gen : Nat) (f : Nat → Nat) (len : Nat) : (s.lay at_ (ent gen f len) (cnt len)).2 = 0 ∨ (s.lay at_ (ent gen f len) (cnt len)).2 = 4 := by
  rw [lay_puts]
  split
  · exact put_cases _ _ _ _
  · exact put_cases _ _ _ _
/-- What is found behind a crash. -/
theorem torn_found (la lb : Nat) (fa fb : Nat → Nat) (r keep : Nat) (tn k : Int) (hla : la ≤ 400) (hlb : lb ≤ 400) (hfa : ∀ i, i < la → fa i < 256) (hfb : ∀ i, i < lb → fb i < 256) {S R1 T : St} {R2 A : Nat}
    (hS : S = ((St.made 30).lay 2 (ent 5 fa la) (cnt la)).1) (hA : A = 2 + cnt la) (hR1 : R1 = ((S.fuse (r : Int)).lay A (ent 5 fb lb) (cnt lb)).1) (hR2 : R2 = ((S.fuse (r : Int)).lay A (ent 5 fb lb) (cnt lb)).2) (hT : T = R1.crash keep tn k) :
    T.n = 30 ∧ Bts T ∧ lenAt T (pos T 2 0) = la ∧ (∀ j, j < la → runs T (pos T 2 0 + 1) j = fa j) ∧
      ((Found T 2 30 5 1 ∧ R2 = 4) ∨ (Found T 2 30 5 2 ∧ lenAt T (pos T 2 1) = lb ∧ ∀ j, j < lb → runs T (pos T 2 1 + 1) j = fb j)) := by
  have hca : cnt la = 1 + (la + 63) / 64 := rfl
  have hcb : cnt lb = 1 + (lb + 63) / 64 := rfl
  obtain ⟨_, _, _, _, _, s1, s2, _, s4, s5⟩ := lay_new 30 2 5 30 fa la (by omega) (by omega) ((fit_iff _ _ _ _).2 (by omega)) hS
  have hbS : Bts S := by rw [hS]; exact (bts_made 30).layd 2 5 hfa
  have hst : Still (S.fuse (r : Int)) := s2
  have hz : ∀ j, j < 64 → (S.fuse (r : Int)).now A j = 0 := fun j _ => s4 A (by omega) j
  obtain ⟨t1, t2, t3⟩ := lay_torn (gen := 5) (f := fb) (len := lb) hst hz keep tn k
  have hRn : R1.n = 30 := by rw [hR1, lay_n]; exact s1
  have hbR : Bts R1 := by rw [hR1]; exact (hbS.fuse _).layd A 5 hfb
  rw [← hR1, ← hT] at t1 t2 t3
  rw [← hR2] at t3
  have hTn : T.n = 30 := by rw [hT]; exact hRn
  have hbT : Bts T := by rw [hT]; exact hbR.crash _ _ _
  have hsame : ∀ i, i < A ∨ A + cnt lb ≤ i → T.now i = S.now i := t1
  have hpa : Pages T.now 2 5 fa la 64 := ⟨fun j hj => by rw [hsame 2 (by omega)]; exact s5.1 j hj, fun i hi j hj => by rw [hsame _ (by omega)]; exact s5.2 i hi j hj⟩
  obtain ⟨e1, e2, e3⟩ := Pages.ent (s := T) (e := 30) hpa (by omega) ((fit_iff _ _ _ _).2 (by rw [hTn]; omega))
  have hp1 : pos T 2 1 = A := by show 2 + cnt (lenAt T 2) = A; rw [e2, hA]
  refine ⟨hTn, hbT, e2, e3, ?_⟩
  cases hq : isEnt T A 30 5 with
  | false =>
    left
    refine ⟨⟨fun i hi => by obtain rfl : i = 0 := (by omega); exact e1, by rw [hp1]; exact hq⟩, ?_⟩
    rcases lay_cases (S.fuse (r : Int)) A 5 fb lb with h0 | h0
    · exfalso
      obtain ⟨q1, _⟩ := Pages.ent (s := T) (e := 30) (t3 (by rw [hR2]; exact h0)) (by omega) ((fit_iff _ _ _ _).2 (by rw [hTn]; omega))
      rw [q1] at hq
      cases hq
    · rw [hR2]; exact h0
  | true =>
    right
    have hpb : Pages T.now A 5 fb lb 64 := by
      rcases t2 with h0 | ⟨m, hm⟩
      · rw [ent_zero (by omega) h0] at hq
        cases hq
      · exact torn_whole hlb hbT.byt hm hq
    obtain ⟨q1, q2, q3⟩ := Pages.ent (s := T) (e := 30) hpb (by omega) ((fit_iff _ _ _ _).2 (by rw [hTn]; omega))
    have hp2 : pos T 2 2 = A + cnt lb := by show pos T 2 1 + cnt (lenAt T (pos T 2 1)) = _; rw [hp1, q2]
    refine ⟨⟨fun i hi => ?_, ?_⟩, by rw [hp1]; exact q2, fun j hj => by rw [hp1]; exact q3 j hj⟩
    · match i, hi with
      | 0, _ => exact e1
      | 1, _ => rw [hp1]; exact q1
    · rw [hp2]
      exact ent_zero (by omega) (fun j _ => by rw [hsame _ (.inr (Nat.le_refl _))]; exact s4 _ (by omega) j)
set_option maxRecDepth 100000 in
set_option maxHeartbeats 3200000 in
theorem regionTorn_in (a0 : Option Addr) (len0 cap0 : Nat) (fa : Nat → Nat) (a1 : Option Addr) (len1 cap1 : Nat) (fb : Nat → Nat) (nf r : Nat) (a3 a4 a5 : Int) (w : World) (hr0 : Rw w a0 len0 fa) (hr1 : Rw w a1 len1 fb) (hf0 : ∀ i, i < len0 → fa i < 256) (hf1 : ∀ i, i < len1 → fb i < 256) (hc0 : len0 ≤ cap0) (hc1 : len1 ≤ cap1)
    (hl0 : len0 ≤ 400) (hl1 : len1 ≤ 400) (hnf : nf < 256) (hk : (nf : Int) % 10 = (r : Int)) (hb3 : 0 ≤ a3 ∧ a3 < 18446744073709551616) (hb5 : -9223372036854775808 ≤ a5 ∧ a5 ≤ 9223372036854775807) :
    Calls Try.prog 4 #[.slice a0 len0 cap0, .slice a1 len1 cap1, .int .u8 (nf : Int), .int .u64 a3, .int .i64 a4, .int .i64 a5] w fun e w' => e = .returned (.bool true) ∧ Below w.heap.size w w' := by
  have HR0 := hide hr0
  have HR1 := hide hr1
  have HF0 := hide hf0
  have HF1 := hide hf1
  have HC := hide (And.intro hc0 hc1)
  have hl0' : ¬ (400 : Int) < (len0 : Int) := by omega
  have hl1' : ¬ (400 : Int) < (len1 : Int) := by omega
  clear hr0 hr1 hf0 hf1 hc0 hc1
  go_enter Try.func4, Try.ntmps4
  go_wp2_with fail
  refine (new_any 30 _ (by omega)).mono ?_
  rintro e w1 ⟨D, F, rfl, hd, hF, hb⟩
  rw [show (clamp 30 1024).toNat = 30 from rfl] at hd
  have HD := hide hd
  have HF := hide hF
  have HB := hide hb
  clear hd hF hb
  have hca : cnt len0 = 1 + (len0 + 63) / 64 := rfl
  have hcb : cnt len1 = 1 + (len1 + 63) / 64 := rfl
  have HFT : Hid (fit 30 2 30 len0 = true) := (fit_iff _ _ _ _).2 (by omega)
  go_wp2_with fail
  refine (lay_in HD.out 2 5 30 a0 len0 cap0 fa (by omega) (by omega) HC.out.1 (HR0.out.below HB.out) HF0.out (fun x hx hp hf => by have := HR0.out.lt x hx hp; have := HF.out _ hf; omega) (by show 30 ≤ 1024; omega) (by show 0 < 800000; omega) HFT.out).mono ?_
  rintro e w2 ⟨rfl, F2, hd2, hst2⟩
  have hlv := ((live_new 30).lay 2 5 fa len0).1
  rw [layNext_good hlv, hlv]
  obtain ⟨S, hS⟩ : ∃ S, S = ((St.made 30).lay 2 (ent 5 fa len0) (cnt len0)).1 := ⟨_, rfl⟩
  have hSn : S.n = 30 := by rw [hS, lay_n]; rfl
  have hSl : S.lo = [] := by rw [hS]; exact (lay_done (still_new 30) hlv).1.1
  rw [← hS] at hd2
  obtain ⟨x1, x2, x3⟩ := hst2.below HB.out.size HF.out
  have HD2 := hide hd2
  have HF2 := hide x2
  have HB2 := hide (HB.out.trans x1)
  have HS := hide (And.intro hS (And.intro hSn hSl))
  obtain ⟨A, hA⟩ : ∃ A, A = 2 + cnt len0 := ⟨_, rfl⟩
  have HA := hide hA
  have hA1 : (A : Int) ≤ 10 := by omega
  have HFT2 : Hid (fit 30 A 30 len1 = true) := (fit_iff _ _ _ _).2 (by omega)
  rw [show ((2 : Nat) : Int) + ((cnt len0 : Nat) : Int) = (A : Int) from by omega, show ((0 : Nat) : Int) = 0 from rfl]
  clear hd2 hst2 x1 x2 x3 hS hSn hSl hlv hA hca hcb
  go_wp2_with fail
  refine (disk_fuse HD2.out (r : Int) (by omega)).mono ?_
  rintro e w3 ⟨rfl, F3, hd3, hst3⟩
  obtain ⟨x1, x2, x3⟩ := hst3.below HB2.out.size HF2.out
  have HD3 := hide hd3
  have HF3 := hide x2
  have HB3 := hide (HB2.out.trans x1)
  clear hd3 hst3 x1 x2 x3
  go_wp2_with fail
  refine (lay_in HD3.out A 5 30 a1 len1 cap1 fb (by omega) (by omega) HC.out.2 (HR1.out.below HB3.out) HF1.out (fun x hx hp hf => by have := HR1.out.lt x hx hp; have := HF3.out _ hf; omega) (by show S.n ≤ 1024; have := HS.out.2.1; omega) (by show S.lo.length < 800000; rw [HS.out.2.2]; show 0 < 800000; omega) (by show fit S.n A 30 len1 = true; rw [HS.out.2.1]; exact HFT2.out)).mono ?_
  rintro e w4 ⟨rfl, F4, hd4, hst4⟩
  obtain ⟨x1, x2, x3⟩ := hst4.below HB3.out.size HF3.out
  obtain ⟨R1, hR1⟩ : ∃ R1, R1 = ((S.fuse (r : Int)).lay A (ent 5 fb len1) (cnt len1)).1 := ⟨_, rfl⟩
  obtain ⟨R2, hR2⟩ : ∃ R2, R2 = ((S.fuse (r : Int)).lay A (ent 5 fb len1) (cnt len1)).2 := ⟨_, rfl⟩
  rw [← hR1] at hd4
  rw [← hR2]
  generalize layNext ((S.fuse (r : Int)).lay A (ent 5 fb len1) (cnt len1)) A (cnt len1) = nx
  have HD4 := hide hd4
  have HF4 := hide x2
  have HB4 := hide (HB3.out.trans x1)
  have HRR := hide (And.intro hR1 hR2)
  clear hd4 hst4 x1 x2 x3 hR1 hR2
  go_wp2_with fail
  refine (disk_crash HD4.out a3 a4 a5 hb3.1 hb3.2 hb5).mono ?_
  rintro e w5 ⟨rfl, F5, hd5, hst5⟩
  obtain ⟨x1, x2, x3⟩ := hst5.below HB4.out.size HF4.out
  obtain ⟨T, hT⟩ : ∃ T, T = R1.crash a3.toNat a4 a5 := ⟨_, rfl⟩
  rw [← hT] at hd5
  obtain ⟨y1, y2, y3, y4, y5⟩ := torn_found len0 len1 fa fb r a3.toNat a4 a5 hl0 hl1 HF0.out HF1.out HS.out.1 HA.out HRR.out.1 HRR.out.2 hT
  have HD5 := hide hd5
  have HB5 := hide (HB4.out.trans x1)
  have HY := hide (And.intro y1 (And.intro y2 (And.intro y3 y4)))
  have HY5 := hide y5
  clear hd5 hst5 x1 x2 x3 hT y1 y2 y3 y4 y5
  go_wp2_with fail
  refine (scan_in HD5.out 2 5 30 (by omega) (by rw [HY.out.1]; omega) (by rw [HY.out.1]; omega) HY.out.2.1.byt).mono ?_
  rintro e w6 ⟨⟨K, v, hK, rfl, hrows⟩, hb6⟩
  have HB6 := hide (HB5.out.trans (below_le hb6 HB5.out.size))
  rcases HY5.out with ⟨hf1, h4⟩ | ⟨hf2, hln, hrn⟩
  · obtain rfl : K = 1 := found_one hK hf1
    have hrd : RowsRd w6 v 1 (fun _ => len0) (fun _ => fa) := (hrows.rd (by omega)).congr (fun i hi => by obtain rfl : i = 0 := (by omega); exact HY.out.2.2.1) (fun i hi j hj => by
      obtain rfl : i = 0 := by omega
      refine HY.out.2.2.2 j ?_
      have : j < lenAt T (pos T 2 0) := hj
      rwa [HY.out.2.2.1] at this)
    have HRD := hide hrd
    obtain ⟨va, vc, rfl, _⟩ := hrd
    rw [h4]
    clear hb6 hK hrows hf1 h4 HY5
    generalize ((pos T 2 1 : Nat) : Int) = px
    go_wp2_with fail
    refine (answers_any _).mono ?_
    rintro e w7 ⟨rfl, hb7⟩
    have hb67 : Below w6.heap.size w6 w7 := (((Below.refl _ _).alloc (Nat.le_refl _) _).alloc (by simp) _).trans (below_le hb7 (by simp; omega))
    have HL1 := hide ((rows_lit1 w6 a0 len0 cap0 fa (HR0.out.below HB6.out)).below (((Below.refl _ _).alloc (Nat.le_refl _) (.cells #[.slice a0 len0 cap0, .slice a1 len1 cap1] 39)).trans (below_le hb7 (by simp))))
    have HRD7 := hide (HRD.out.below hb67)
    have HB7 := hide (HB6.out.trans (below_le hb67 HB6.out.size))
    clear hb7 hb67
    go_wp2_with fail
    refine (rows_unlike va _ 1 2 vc 2 _ (by omega)).mono ?_
    rintro e w8 ⟨rfl, rfl⟩
    go_wp2_with fail
    refine (rows_same HRD7.out HL1.out).mono ?_
    rintro e w9 ⟨rfl, m, rfl⟩
    go_wp2
    go_ret
    exact ⟨rfl, below_drewN HB7.out m⟩
  · obtain rfl : K = 2 := found_one hK hf2
    have hrd : RowsRd w6 v 2 (two len0 len1) (two fa fb) := rd_two (hrows.rd (by omega)) HY.out.2.2.1 hln HY.out.2.2.2 hrn
    have HRD := hide hrd
    obtain ⟨va, vc, rfl, _⟩ := hrd
    clear hb6 hK hrows hf2 hln hrn HY5
    generalize ((pos T 2 2 : Nat) : Int) = px
    go_wp2_with fail
    refine (answers_any _).mono ?_
    rintro e w7 ⟨rfl, hb7⟩
    have hb67 : Below w6.heap.size w6 w7 := (((Below.refl _ _).alloc (Nat.le_refl _) _).alloc (by simp) _).trans (below_le hb7 (by simp; omega))
    have hba : Below w6.heap.size w6 (w6.alloc (.cells #[.slice a0 len0 cap0] 39)) := (Below.refl _ _).alloc (Nat.le_refl _) _
    have HL2 := hide ((rows_lit2 (w6.alloc (.cells #[.slice a0 len0 cap0] 39)) a0 len0 cap0 fa a1 len1 cap1 fb ((HR0.out.below HB6.out).below hba) ((HR1.out.below HB6.out).below hba)).below hb7)
    rw [World.size_alloc] at HL2
    have HRD7 := hide (HRD.out.below hb67)
    have HB7 := hide (HB6.out.trans (below_le hb67 HB6.out.size))
    clear hb7 hb67 hba
    go_wp2_with fail
    refine (rows_same HRD7.out HL2.out).mono ?_
    rintro e w9 ⟨rfl, m, rfl⟩
    go_wp2
    go_ret
    exact ⟨rfl, below_drewN HB7.out m⟩
set_option maxHeartbeats 400000 in
theorem regionTorn_out (a0 : Option Addr) (len0 cap0 : Nat) (a1 : Option Addr) (len1 cap1 : Nat) (a2 a3 a4 a5 : Int) (w : World) (h : 400 < len0 ∨ 400 < len1) :
    Calls Try.prog 4 #[.slice a0 len0 cap0, .slice a1 len1 cap1, .int .u8 a2, .int .u64 a3, .int .i64 a4, .int .i64 a5] w fun e w' => e = .returned (.bool true) ∧ Below w.heap.size w w' := by
  by_cases hl : 400 < len0
  · have hl' : (400 : Int) < (len0 : Int) := by omega
    go_enter Try.func4, Try.ntmps4
    go_wp2_with fail
    refine (answers_any _).mono ?_
    rintro e w1 ⟨rfl, hb⟩
    go_wp2
    go_ret
    exact ⟨rfl, hb⟩
  · have hl' : ¬ (400 : Int) < (len0 : Int) := by omega
    have hl2 : (400 : Int) < (len1 : Int) := by omega
    go_enter Try.func4, Try.ntmps4
    go_wp2_with fail
    refine (answers_any _).mono ?_
    rintro e w1 ⟨rfl, hb⟩
    go_wp2
    go_ret
    exact ⟨rfl, hb⟩
theorem regionTorn_walk (a0 : Option Addr) (len0 cap0 : Nat) (z0 : List Int) (a1 : Option Addr) (len1 cap1 : Nat) (z1 : List Int) (a2 : Int) (a3 : Int) (a4 : Int) (a5 : Int) (w : World) (w0 : IsRow .u8 w a0 len0 cap0 z0) (w1 : IsRow .u8 w a1 len1 cap1 z1) (w2 : (Lit.int .u8 a2).wf = true) (w3 : (Lit.int .u64 a3).wf = true) (_ : (Lit.int .i64 a4).wf = true) (w5 : (Lit.int .i64 a5).wf = true) :
    Calls Try.prog 4 #[.slice a0 len0 cap0, .slice a1 len1 cap1, .int .u8 a2, .int .u64 a3, .int .i64 a4, .int .i64 a5] w fun e w' => e = .returned (.bool true) ∧ Below w.heap.size w w' := by
  obtain ⟨hr0, hf0⟩ := rw_of w0
  obtain ⟨hr1, hf1⟩ := rw_of w1
  have hb2 := bounds_u8 w2
  have hb3 := bounds_u64 w3
  have hb5 := bounds_i64 w5
  by_cases h : 400 < len0 ∨ 400 < len1
  · exact regionTorn_out a0 len0 cap0 a1 len1 cap1 a2 a3 a4 a5 w h
  · obtain ⟨n, rfl⟩ := Int.eq_ofNat_of_zero_le hb2.1
    exact regionTorn_in a0 len0 cap0 _ a1 len1 cap1 _ n (n % 10) a3 a4 a5 w hr0 hr1 hf0 hf1 (isRow_cap w0) (isRow_cap w1) (by omega) (by omega) (by omega) (by omega) (by omega) (by omega)
end Go.Proofs.Ytolbifboibjgcaa
