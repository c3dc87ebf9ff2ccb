/- WalSupers' walk. -/
import Derived.Test.YtbecchoidglaeaaAns04
import Derived.Test.YtbecchoidglaeaaSupI
namespace Go.Proofs.Ytbecchoidglaeaa
open Go.RowKit
set_option maxRecDepth 100000

/-- i checkpoints were made; all is new since w0. -/
structure Sups (w0 wq : World) (B D i a : Nat) (s : St) (F : Nat → Prop) : Prop where
  p : PLog wq B D ⟨i + 1, a, false⟩ s F
  v : SInv s i
  hF : ∀ b, F b → w0.heap.size ≤ b
  hB : w0.heap.size ≤ B
  bel : Below w0.heap.size w0 wq
theorem Sups.later {w0 wq w' : World} {B D i a : Nat} {s : St} {F : Nat → Prop} (h : Sups w0 wq B D i a s F) (hb : Below wq.heap.size wq w') : Sups w0 w' B D i a s F :=
  { h with p := h.p.later hb, bel := h.bel.trans (below_le hb h.bel.size) }
theorem Sups.step {w0 wq w' : World} {B D i a a' : Nat} {s s' : St} {F F' : Nat → Prop} (h : Sups w0 wq B D i a s F) (hp : PLog w' B D ⟨i + 1 + 1, a', false⟩ s' F') (hv : SInv s' (i + 1)) (hst : PStep B F F' wq w') : Sups w0 w' B D (i + 1) a' s' F' :=
  ⟨hp, hv, (hst.below h.bel.size h.hF h.hB).2.1, h.hB, h.bel.trans (hst.below h.bel.size h.hF h.hB).1⟩
theorem one_row (w : World) (x : Nat) (t : TypeId) : Rw (w.alloc (.cells #[.int .u8 (x : Int)] t)) (some ⟨w.heap.size, 0, none⟩) 1 (fun _ => x) := by
  refine ⟨by decide, fun _ => ⟨w.heap.size, 0, rfl, fun i hi => ?_⟩⟩
  obtain rfl : i = 0 := by omega
  rw [World.cell?_alloc_mark]
  rfl
theorem read_at {w : World} {D : Nat} {s : St} {F : Nat → Prop} (h : Disk w D s F) (i : Nat) (hi : i < s.n) :
    Calls Try.prog 27 #[.pointer (some ⟨D, 0, none⟩), .int .i64 (i : Int)] w fun e w' => e = .returned (.tuple #[.slice (some ⟨w.heap.size, 0, none⟩) 64 64, .int .i64 0]) ∧ w' = w.alloc (.cells (valsOf (s.now i) 64).toArray 93) := by
  obtain ⟨N, L, v, h, rfl⟩ := h
  exact read_in h i hi
theorem page_cell (w : World) (f : Nat → Nat) (t : TypeId) (q : Nat) (hq : q < 64) : (w.alloc (.cells (valsOf f 64).toArray t)).cell? ⟨w.heap.size, q, none⟩ = some (.int .u8 (f q : Int)) ∧ (w.alloc (.cells (valsOf f 64).toArray t)).frozen? ⟨w.heap.size, q, none⟩ = false := by
  have h : (w.alloc (.cells (valsOf f 64).toArray t)).heap[w.heap.size]? = some (.cells (valsOf f 64).toArray t (0, 0)) := heap_alloc_new w _
  constructor
  · rw [cell_of_row _ _ _ _ _ _ h, List.getElem?_toArray, valsOf_get _ _ _ hq]
  · simp only [World.frozen?, h]
    simp
/-- A byte of a page is another one. -/
def other (f : Nat → Nat) (q x : Nat) : Nat → Nat := fun j => if j = q then x else f j
theorem page_other (w : World) (f : Nat → Nat) (t : TypeId) (q x : Nat) : Rw ((w.alloc (.cells (valsOf f 64).toArray t)).setCell ⟨w.heap.size, q, none⟩ (.int .u8 (x : Int))) (some ⟨w.heap.size, 0, none⟩) 64 (other f q x) := by
  refine ⟨by decide, fun _ => ⟨w.heap.size, 0, rfl, fun j hj => ?_⟩⟩
  have hb := heap_set_at (w.alloc (.cells (valsOf f 64).toArray t)) w.heap.size q _ _ _ (.int .u8 (x : Int)) (heap_alloc_new w _)
  rw [cell_of_row _ _ _ _ _ _ hb, Nat.zero_add]
  unfold other
  by_cases e : j = q
  · subst e; rw [if_pos rfl]; simp [valsOf_length, hj]
  · rw [if_neg e]; simp [valsOf, hj, Ne.symm e]
/-- A list of one row of one byte, as it is built. -/
theorem two_rows (w : World) (r : Nat) : RowsRd ((w.alloc (.cells #[.int .u8 (r : Int)] 5)).alloc (.cells #[.slice (some ⟨w.heap.size, 0, none⟩) 1 1] 37)) (.slice (some ⟨w.heap.size + 1, 0, none⟩) 1 1) 1 (fun _ => 1) (fun _ _ => r) := by
  refine ⟨_, 1, rfl, by omega, fun _ => ⟨w.heap.size + 1, rfl, fun i hi => ?_⟩⟩
  obtain rfl : i = 0 := by omega
  refine ⟨some ⟨w.heap.size, 0, none⟩, 1, ?_, ?_⟩
  · have h := heap_alloc_new (w.alloc (.cells #[.int .u8 (r : Int)] 5)) (.cells #[.slice (some ⟨w.heap.size, 0, none⟩) 1 1] 37)
    have e : (w.alloc (.cells #[.int .u8 (r : Int)] 5)).heap.size = w.heap.size + 1 := by simp
    rw [e] at h
    rw [cell_of_row _ _ _ _ _ _ h]
    rfl
  · exact (one_row w r 5).below ((Below.refl _ _).alloc (Nat.le_refl _) _)
set_option maxHeartbeats 6400000 in
theorem walSupers_in (n k0 k q at_ x : Nat) (w : World) (hn : n < 256) (hx : 0 < x) (hx2 : x < 256) (hat : at_ < 256) (hk : (n : Int) % 5 = (k0 : Int)) (hK : (k0 : Int) + 1 = (k : Int)) (hq : (at_ : Int) % 64 = (q : Int)) :
    Calls Try.prog 8 #[.int .u8 (n : Int), .int .u8 (at_ : Int), .int .u8 (x : Int)] w fun e w' => e = .returned (.bool true) ∧ Below w.heap.size w w' := by
  have hkb : 1 ≤ k ∧ k ≤ 5 := by omega
  have hq64 : q < 64 := by omega
  have HO := hide (calm_new 80 (by omega))
  have e0 : ((x : Int) == 0) = false := by rw [beq_eq_false_iff_ne]; omega
  have hk5 : (k : Int) ≤ 5 := by omega
  have HKB := hide hkb
  clear hkb
  go_enter Try.func8, Try.ntmps8
  go_wp2_with fail
  refine (new_any 80 _ (by omega)).mono ?_
  rintro e w1 ⟨D, F, rfl, hd, hF, hb⟩
  rw [show (clamp 80 1024).toNat = 80 from rfl] at hd
  have HD := hide hd
  have HF := hide hF
  have HB := hide hb
  clear hd hF hb
  go_wp2_with fail
  refine (open_ok HD.out (bts_made 80) (by show 4 ≤ 80; omega) (by show 80 ≤ 1024; omega) (by show 0 < 600000; omega) HO.out.1).mono ?_
  rintro e w2 ⟨B, v, rfl, F2, hp2, hst2, hB2, _⟩
  rw [HO.out.2.2.2.1] at hp2
  have HS0 : Hid (∃ a s F, Sups w w2 B D 0 a s F) := ⟨_, _, F2, hp2, sinv_new, (hst2.below (B := w.heap.size) HB.out.size HF.out).2.1, Nat.le_trans HB.out.size hB2, HB.out.trans (hst2.below (B := w.heap.size) HB.out.size HF.out).1⟩
  clear hp2 hst2 hB2
  go_wp2
  rw [hk]
  clear hk
  go_loopw [12] (fun iv wq => ∃ i : Nat, i ≤ k ∧ iv = .int .i64 (i : Int) ∧ Hid (∃ a s F, Sups w wq B D i a s F)) (fun iv _ => k - (intOf iv).toNat)
  case atStart => exact ⟨0, by omega, rfl, HS0.out⟩
  case round =>
    obtain ⟨i, hi, rfl, HS⟩ := hrel
    obtain ⟨a, s, F5, hs5⟩ := HS.out
    have HS5 := hide hs5
    clear hs5
    by_cases hlt : (i : Int) < (k : Int)
    · have hi5 : (i : Int) ≤ 5 := by omega
      go_wp2_with fail
      have hb6 : Below wr.heap.size wr (wr.alloc (.cells #[.int .u8 (i : Int)] 5)) := (Below.refl _ _).alloc (Nat.le_refl _) _
      have HS6 := hide (HS5.out.later hb6)
      have HRW := hide (one_row wr i 5)
      clear hb6
      refine (check_calm HS6.out.p HS6.out.v.c rfl (by rw [HS6.out.v.n]; omega) (by rw [HS6.out.v.n]; omega) (by show i + 1 < 2147483647; omega) _ 1 1 (fun _ => i) (by omega) (by omega) HRW.out (fun _ _ => by show i < 256; omega) (fun y hy _ hf => by injection hy with hy; subst hy; have := HS5.out.p.d.lt _ hf; simp at this) (by rw [HS6.out.v.n]; decide)).mono ?_
      rintro e w7 ⟨rfl, F7, hp7, hst7⟩
      have hp7' : PLog w7 B D ⟨i + 1 + 1, fromOf s.n (i + 2) + cnt 1, false⟩ (checkSt s (i + 2) (fun _ => i) 1).1 F7 := hp7
      have HS7 : Hid (∃ a s F, Sups w w7 B D (i + 1) a s F) := ⟨_, _, F7, HS6.out.step hp7' (sinv_step HS6.out.v (by omega)) hst7⟩
      clear hp7 hp7' hst7
      go_wp2
      exact ⟨⟨i + 1, by omega, by go_num, HS7.out⟩, by simp [intOf]; omega⟩
    · obtain rfl : i = k := by omega
      go_wp2_with fail
      refine (gen_in HS5.out.p.l).mono ?_
      rintro e w6 ⟨rfl, hw6⟩
      subst hw6
      rw [show (((⟨i + 1, a, false⟩ : Lg).gen : Nat) : Int) = (i : Int) + 1 from by show ((i + 1 : Nat) : Int) = _; omega]
      obtain ⟨m, hm⟩ : ∃ m : Nat, m = (i + 1) % 2 := ⟨_, rfl⟩
      have hm2 : ((i : Int) + 1) % 2 = (m : Int) := by omega
      have HM := hide hm
      clear hm
      go_wp2_with fail
      refine (read_at HS5.out.p.d m (by rw [HS5.out.v.n]; omega)).mono ?_
      rintro e w7 ⟨rfl, hw7⟩
      have hpc := page_cell w6 (s.now m) 93 q hq64
      have hbq : s.now m q < 256 := HS5.out.v.c.bts.now m q
      have hxr := u8_xor_nat (s.now m q) x hbq hx2
      have hne : s.now m q ^^^ x ≠ s.now m q := fun e => by
        have h1 : s.now m q ^^^ x = s.now m q ^^^ 0 := by rw [e, Nat.xor_zero]
        have h2 := xor_left_inj' h1
        omega
      have hlt2 : s.now m q ^^^ x < 256 := Nat.xor_lt_two_pow (n := 8) hbq hx2
      rw [← hw7] at hpc
      have c7 := hpc.1
      have f7 := hpc.2
      have HPO := hide (page_other w6 (s.now m) 93 q (s.now m q ^^^ x))
      rw [← hw7] at HPO
      have hb7 : Below w6.heap.size w6 w7 := by rw [hw7]; exact (Below.refl _ _).alloc (Nat.le_refl _) _
      have HS7 := hide (HS5.out.later hb7)
      have HXR := hide hxr
      have HNE := hide hne
      have HLT := hide hlt2
      obtain ⟨bb, hbb⟩ : ∃ bb, bb = w6.heap.size := ⟨_, rfl⟩
      rw [← hbb] at c7 f7 HPO
      rw [← hbb]
      have HBB : Hid (w6.heap.size ≤ bb ∧ bb < w7.heap.size) := by rw [hw7, hbb]; exact ⟨Nat.le_refl _, by simp⟩
      have hq0 : (0 : Int) ≤ (q : Int) := Int.natCast_nonneg _
      have hq1 : (q : Int) < 64 := by omega
      clear hpc hw7 hb7 hxr hne hlt2 hbb
      obtain ⟨y, hy⟩ : ∃ y, y = s.now m q := ⟨_, rfl⟩
      rw [← hy] at c7 hbq HXR HNE HPO HLT
      have HY := hide hy
      clear hy
      go_wp2_with fail
      rw [HXR.out]
      obtain ⟨z, hz⟩ : ∃ z, z = y ^^^ x := ⟨_, rfl⟩
      rw [← hz] at HPO HNE HLT
      rw [← hz]
      have HZ := hide hz
      clear hz
      have HK8 : Hid (Keeps (fun b => b = bb) w7 (w7.setCell ⟨bb, q, none⟩ (.int .u8 (z : Int)))) := (Keeps.refl _ _).setCell bb q _ (.inl rfl)
      have HS8 : Hid (Sups w (w7.setCell ⟨bb, q, none⟩ (.int .u8 (z : Int))) B D i a s F5) := by
        have hnf : ¬ F5 bb := fun hf => by have := HS5.out.p.d.lt _ hf; have := HBB.out; omega
        have hnb : B ≠ bb := fun e => by have := HS5.out.p.l.lt; have := HBB.out; omega
        exact ⟨⟨HS7.out.p.l.keeps HK8.out hnb, HS7.out.p.d.keeps HK8.out (fun b hb e => hnf (e ▸ hb)), HS7.out.p.nf⟩, HS7.out.v, HS7.out.hF, HS7.out.hB, HS7.out.bel.trans (HK8.out.below _ HS7.out.bel.size (fun b hb => by have := HBB.out; have := HS5.out.bel.size; omega))⟩
      have HOB : Hid (∀ j, other (s.now m) q z j < 256) := fun j => by
        unfold other
        split
        · exact HLT.out
        · exact HS5.out.v.c.bts.now m j
      generalize w7.setCell ⟨bb, q, none⟩ (.int .u8 (z : Int)) = w8 at *
      clear c7 f7 HK8
      refine (disk_wr HS8.out.p.d m (by rw [HS8.out.v.n]; omega) _ 64 64 (other (s.now m) q z) (by omega) (by rw [lo_calm HS8.out.v.c]; omega) HPO.out (fun y hy _ => by injection hy with hy; subst hy; show bb ≠ D; have := HS5.out.p.d.D.2; have := HBB.out; omega)).mono ?_
      rintro e w9 ⟨rfl, F9, hd9, hst9⟩
      have HD9 := hide hd9
      have HST9 := hide hst9
      clear hd9 hst9
      go_wp2_with fail
      refine (disk_fl HD9.out).mono ?_
      rintro e wA ⟨rfl, FA, hdA, hstA⟩
      have hw0 := (HS8.out.v.c.live.wr m (fill (other (s.now m) q z) 64)).1
      have hcw := calm_wr HS8.out.v.c m (fill (other (s.now m) q z) 64) (bts_fill (f := other (s.now m) q z) (len := 64) (fun j _ => HOB.out j))
      rw [andThen_ok hw0] at hcw
      obtain ⟨t, ht⟩ : ∃ t, t = (s.wr m (fill (other (s.now m) q z) 64)).1.fl.1 := ⟨_, rfl⟩
      rw [← ht] at hdA hcw
      have htn : t.n = 80 := by rw [ht, fl_n, wr_n]; exact HS8.out.v.n
      have HDA := hide hdA
      have HSTA := hide ((HST9.out.trans hstA).below (B := w.heap.size) HS8.out.bel.size HS8.out.hF)
      have hnow : ∀ x j, j < 64 → t.now x j = if x = m then other (s.now m) q z j else s.now x j := fun x j hj => by
        rw [hcw.2.2 x j hj]
        unfold fill
        rw [if_pos hj]
      have HSP := hide (sinv_spoilt (t := t) HS5.out.v HKB.out.1 (by have := HKB.out; omega) hcw.2.1 htn hq64
        (fun x hx j hj => by rw [hnow x j hj, if_neg (by rw [HM.out]; exact hx)])
        (fun j hj hne => by
          rw [← HM.out, hnow m j hj, if_pos rfl]
          unfold other
          rw [if_neg hne, HM.out]
          exact HS5.out.v.sup1 j hj)
        (by
          rw [← HM.out, hnow m q hq64, if_pos rfl]
          unfold other
          rw [if_pos rfl]
          have h1 := HS5.out.v.sup1 q hq64
          rw [← HM.out, ← HY.out] at h1
          rw [← h1]
          exact HNE.out))
      have HCT := hide hcw.2.1
      have HTN := hide htn
      clear hdA hstA hw0 hcw ht hnow htn
      go_wp2_with fail
      refine (open_ok HDA.out HCT.out.bts (by rw [HTN.out]; omega) (by rw [HTN.out]; omega) (by rw [lo_calm HCT.out]; omega) HSP.out.1).mono ?_
      rintro e wB ⟨B2, v2, rfl, FB, hpB, hstB, hBB, hrows⟩
      unfold ORows at hrows
      rw [HTN.out, HSP.out.2.1, HSP.out.2.2.2.1] at hrows
      have HPB := hide hpB
      have HBB2 : Hid (Below w.heap.size w wB) := (HS8.out.bel.trans HSTA.out.1).trans (hstB.below (B := w.heap.size) HSTA.out.2.2 HSTA.out.2.1).1
      have HRO := hide hrows
      clear hpB hstB hBB hrows
      by_cases hi1 : i = 1
      · have HI1 := hide hi1
        have eI : ((i : Int) == 1) = true := by rw [beq_iff_eq]; omega
        clear hi1
        have HRL : Hid (∀ w', Below wB.heap.size wB w' → RowsRd w' v2 0 (fun _ => 0) (fun _ _ => 0)) := fun w' hb => by
          have h1 := HRO.out
          rw [HI1.out, HSP.out.2.2.2.2.1 HI1.out] at h1
          exact (h1.below hb).congr (fun j hj => absurd hj (by omega)) (fun j hj => absurd hj (by omega))
        go_wp2_with fail
        refine (answers_any _).mono ?_
        rintro e wC ⟨rfl, hbC⟩
        have hbC' : Below wB.heap.size wB wC := by
          refine Below.trans ?_ (below_le hbC (by simp; omega))
          exact ((Below.refl _ _).alloc (Nat.le_refl _) _).alloc (by simp) _
        have HBC := hide hbC'
        clear hbC hbC'
        go_wp2_with fail
        refine (gen_in (HPB.out.later HBC.out).l).mono ?_
        rintro e wD ⟨rfl, hwD⟩
        subst hwD
        rw [HSP.out.2.2.1]
        go_wp2_with fail
        refine (rows_same (HRL.out _ HBC.out) (v2 := .slice none 0 0) ⟨none, 0, rfl, by omega, fun h => absurd h (by omega)⟩).mono ?_
        rintro e wE ⟨rfl, nE, rfl⟩
        go_wp2
        go_ret
        exact ⟨rfl, below_drewN (HBB2.out.trans (below_le HBC.out HBB2.out.size)) nE⟩
      · have eI : ((i : Int) == 1) = false := by rw [beq_eq_false_iff_ne]; omega
        have hi2 : 2 ≤ i := by have := HKB.out; omega
        obtain ⟨r, hr⟩ : ∃ r, r = i - 2 := ⟨_, rfl⟩
        have hr2 : (i : Int) - 2 = (r : Int) := by omega
        have hr3 : (r : Int) ≤ 5 := by omega
        have HI2 := hide hi2
        have HR2 := hide hr
        clear hi1 hi2 hr
        have HRL : Hid (∀ w', Below wB.heap.size wB w' → RowsRd w' v2 1 (fun _ => 1) (fun _ _ => r)) := fun w' hb => by
          have h1 := HRO.out
          obtain ⟨p1, p2, p3⟩ := HSP.out.2.2.2.2.2 HI2.out
          rw [p1] at h1
          refine (h1.below hb).congr (fun j hj => ?_) (fun j hj c hc => ?_)
          · obtain rfl : j = 0 := by omega
            exact p2
          · obtain rfl : j = 0 := by omega
            have hl : lenAt t (pos t (fromOf 80 i) 0) = 1 := p2
            rw [hl] at hc
            obtain rfl : c = 0 := by omega
            rw [HR2.out]
            exact p3
        go_wp2_with fail
        refine (answers_any _).mono ?_
        rintro e wC ⟨rfl, hbC⟩
        have HW1 := hide ((two_rows wB r).below hbC)
        have hbC' : Below wB.heap.size wB wC := by
          refine Below.trans ?_ (below_le hbC (by simp; omega))
          exact ((Below.refl _ _).alloc (Nat.le_refl _) _).alloc (by simp) _
        have HBC := hide hbC'
        clear hbC hbC'
        go_wp2_with fail
        refine (gen_in (HPB.out.later HBC.out).l).mono ?_
        rintro e wD ⟨rfl, hwD⟩
        subst hwD
        rw [HSP.out.2.2.1]
        go_wp2_with fail
        refine (rows_same (HRL.out _ HBC.out) HW1.out).mono ?_
        rintro e wE ⟨rfl, nE, rfl⟩
        go_wp2
        go_ret
        exact ⟨rfl, below_drewN (HBB2.out.trans (below_le HBC.out HBB2.out.size)) nE⟩
theorem walSupers_zero (n at_ : Int) (w : World) :
    Calls Try.prog 8 #[.int .u8 n, .int .u8 at_, .int .u8 0] w fun e w' => e = .returned (.bool true) ∧ Below w.heap.size w w' := by
  go_enter Try.func8, Try.ntmps8
  go_wp2_with fail
  refine (answers_any _).mono ?_
  rintro e w1 ⟨rfl, hb⟩
  go_wp2
  go_ret
  exact ⟨rfl, hb⟩
theorem walSupers_walk (a0 : Int) (a1 : Int) (a2 : Int) (w0 : (Lit.int .u8 a0).wf = true) (w1 : (Lit.int .u8 a1).wf = true) (w2 : (Lit.int .u8 a2).wf = true) (w : World) :
    Calls Try.prog 8 #[.int .u8 a0, .int .u8 a1, .int .u8 a2] w fun e w' => e = .returned (.bool true) ∧ Below w.heap.size w w' := by
  have h0 := bounds_u8 w0
  have h1 := bounds_u8 w1
  have h2 := bounds_u8 w2
  obtain ⟨n, rfl⟩ := Int.eq_ofNat_of_zero_le h0.1
  obtain ⟨at_, rfl⟩ := Int.eq_ofNat_of_zero_le h1.1
  obtain ⟨x, rfl⟩ := Int.eq_ofNat_of_zero_le h2.1
  by_cases hx : x = 0
  · subst hx
    exact walSupers_zero _ _ w
  · exact walSupers_in n (n % 5) (n % 5 + 1) (at_ % 64) at_ x w (by omega) (by omega) (by omega) (by omega) (by omega) (by omega) (by omega)
end Go.Proofs.Ytbecchoidglaeaa
