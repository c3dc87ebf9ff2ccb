/- The program's Best. -/
import Derived.Test.YtolpaimmmhoiiaaDdL
namespace Go.Proofs.Ytolpaimmmhoiiaa
open Go.RowKit
set_option maxRecDepth 100000

theorem freeB_is (num : Int) (all : List Rt) : (List.range all.length).filter (yOf all fun r => !(hasP r.att.path num)) = freeB num all := rfl
theorem stepsB_ne {num : Int} {infos : List Inf} {all : List Rt} {js : List Nat} (h : js ≠ []) : ∀ s, stepsB num infos all js s ≠ []
  | 0 => h
  | s + 1 => stepB_ne (stepsB_ne h s)
set_option maxHeartbeats 6400000 in
theorem pbest_any (num : Int) (ai : Option Addr) (ci : Nat) (infos : List Inf) (al : Option Addr) (cl : Nat) (all : List Rt) (w : World) (hl : all.length ≤ 3000) (V : QEnv w ai infos al all) :
    Calls Try.prog 10 #[.int .i64 num, .slice ai infos.length ci, .slice al all.length cl] w fun e w' => e = .returned (bestV (bestB num infos all)) ∧ Below w.heap.size w w' := by
  have KP : Hid (∀ W, Calls Try.prog 16 #[.agg #[.int .i64 num, .slice ai infos.length ci, .slice al all.length cl]] W fun e w' => (∃ a c, e = .returned (.slice a (List.range all.length).length c) ∧ IRd w' a (jsI (List.range all.length))) ∧ Below W.heap.size W w') := fun W => places_any num ai infos.length ci al all.length cl W hl
  have KT : Hid (∀ W a c, Below w.heap.size w W → IRd W a (jsI (List.range all.length)) → Calls Try.prog 15 #[.agg #[.int .i64 num, .slice ai infos.length ci, .slice al all.length cl], .slice a (List.range all.length).length c, .func (.func 17) #[.agg #[.int .i64 num, .slice ai infos.length ci, .slice al all.length cl]] #[]] W fun e w' => (∃ s, e = .returned s ∧ OwnJ w' W.heap.size s (freeB num all)) ∧ Below W.heap.size W w') := fun W a c hb hr => those_any num ai infos.length ci al cl all a c (List.range all.length) _ (yOf all fun r => !(hasP r.att.path num)) W (by rw [List.length_range]; exact hl) (fun j hj => by simpa using hj) (V.rts.below hb) hr (fun j r h => ⟨_, _, _, rfl, Try.call17, fun w1 pa pc ca cc ra rc h9 ha => by
    rw [show yOf all (fun r => !(hasP r.att.path num)) j = !(hasP r.att.path num) from yOf_at h]
    exact free_any num ai infos.length ci al all.length cl pa pc ca cc ra rc r w1 (V.fit.path j r h) ha.path⟩)
  have KQ : Hid (∀ W, Below w.heap.size w W → Calls Try.prog 18 #[.agg #[.int .i64 num, .slice ai infos.length ci, .slice al all.length cl]] W fun e w' => (∃ g c, e = .returned (.slice (some ⟨g, 0, none⟩) 9 c) ∧ ∀ i, i < 9 → ∃ v, w'.cell? ⟨g, i, none⟩ = some v ∧ AsksJ w' v all.length (stepB i num infos all)) ∧ Below W.heap.size W w') := fun W hb => questions_any num ai ci infos al cl all W (V.below hb)
  have HFL : Hid (∀ j ∈ freeB num all, j < all.length) := fun j hj => freeB_lt hj
  have HFN : Hid ((freeB num all).length ≤ 3000) := Nat.le_trans (List.length_filter_le _ _) (by rw [List.length_range]; exact hl)
  have HBB : Hid (bestB num infos all = (stepsB num infos all (freeB num all) 9).head?) := rfl
  obtain ⟨bb, hbb⟩ : ∃ bb, bb = bestB num infos all := ⟨_, rfl⟩
  rw [← hbb] at HBB ⊢
  have HSN : Hid (∀ s, stepsB num infos all (freeB num all) (s + 1) = stepB s num infos all (stepsB num infos all (freeB num all) s)) := fun _ => rfl
  clear V hbb
  generalize freeB num all = js0 at *
  generalize List.range all.length = rg at *
  obtain ⟨nr, hnr⟩ : ∃ nr, nr = rg.length := ⟨_, rfl⟩
  rw [← hnr] at KP KT
  clear hnr
  generalize infos.length = n at *
  obtain ⟨m, hm⟩ : ∃ m, m = all.length := ⟨_, rfl⟩
  rw [← hm] at KP KT KQ HFL hl ⊢
  clear hm
  go_enter Try.func10, Try.ntmps10
  go_wp2_with fail
  have HB0 : Hid (Below w.heap.size w (w.alloc (.cells #[.int .i64 num, .slice ai n ci, .slice al m cl] 53))) := (Below.refl _ _).alloc (Nat.le_refl _) _
  have d0 : (w.alloc (.cells #[.int .i64 num, .slice ai n ci, .slice al m cl] 53)).cell? ⟨w.heap.size, 0, none⟩ = some (.int .i64 num) := by simp [go_sem]
  have d1 : (w.alloc (.cells #[.int .i64 num, .slice ai n ci, .slice al m cl] 53)).cell? ⟨w.heap.size, 1, none⟩ = some (.slice ai n ci) := by simp [go_sem]
  have d2 : (w.alloc (.cells #[.int .i64 num, .slice ai n ci, .slice al m cl] 53)).cell? ⟨w.heap.size, 2, none⟩ = some (.slice al m cl) := by simp [go_sem]
  have z0 : (w.alloc (.cells #[.int .i64 num, .slice ai n ci, .slice al m cl] 53)).heap.size = w.heap.size + 1 := by simp
  have HZ0 := hide z0
  clear z0
  generalize w.alloc (.cells #[.int .i64 num, .slice ai n ci, .slice al m cl] 53) = w0 at *
  have HC : Hid (∀ W, Below w0.heap.size w0 W → W.cell? ⟨w.heap.size, 0, none⟩ = some (.int .i64 num) ∧ W.cell? ⟨w.heap.size, 1, none⟩ = some (.slice ai n ci) ∧ W.cell? ⟨w.heap.size, 2, none⟩ = some (.slice al m cl)) := fun W hb => by
    refine ⟨?_, ?_, ?_⟩
    · rw [hb.cell (p := ⟨w.heap.size, 0, none⟩) (by have := HZ0.out; simp only; omega)]; exact d0
    · rw [hb.cell (p := ⟨w.heap.size, 1, none⟩) (by have := HZ0.out; simp only; omega)]; exact d1
    · rw [hb.cell (p := ⟨w.heap.size, 2, none⟩) (by have := HZ0.out; simp only; omega)]; exact d2
  have HBBW : Hid (∀ W, Below w0.heap.size w0 W → Below w.heap.size w W) := fun W hb => HB0.out.trans (hb.mono HB0.out.size)
  clear d0 d1 d2
  refine region_ord (fun w' => Below w0.heap.size w0 w') (fun k => k == 2 || k == 5) [0, 1, 3, 4, 2, 5, 6] (by kernel_rfl) (by kernel_rfl) rfl (by kernel_rfl) (Below.refl _ _).drew ?_
  refine ord_q (by rfl) (by rfl) (by rfl) (fun w9 h9 => exec_loadC (by rfl) (HC.out _ h9)) (by go_simp; first | done | rfl) ?_
  refine ord_q (by rfl) (by rfl) (by rfl) (fun w9 h9 => exec_loadC (by rfl) (HC.out _ h9)) (by go_simp; first | done | rfl) ?_
  refine ord_q (by rfl) (by rfl) (by rfl) (fun w9 h9 => exec_loadC (by rfl) (HC.out _ h9)) (by go_simp; first | done | rfl) ?_
  refine ord_q (by rfl) (by rfl) (by rfl) (fun w9 h9 => (by go_simp; first | done | rfl)) (by go_simp; first | done | rfl) ?_
  refine ord_l (by rfl) (by rfl) (by rfl) ?_
  go_simp
  refine (KP.out _).mono ?_
  rintro e w1 ⟨⟨a1, c1, rfl, hr1⟩, b1⟩
  have hb1 : Below w0.heap.size w0 w1 := Below.trans (Below.refl _ _).drew (b1.mono (by simp))
  refine ⟨hb1, ?_⟩
  have K2 := hide (KT.out w1 a1 c1 (HBBW.out _ hb1) hr1)
  have HB1 := hide hb1
  clear hr1 b1 hb1
  refine ord_l (by rfl) (by rfl) (by rfl) ?_
  go_simp
  refine K2.out.mono ?_
  rintro e w2 ⟨⟨s2, rfl, ho2⟩, b2⟩
  obtain ⟨a2, c2, rfl, rd2⟩ := ho2.rd
  have hb2 : Below w0.heap.size w0 w2 := HB1.out.trans (b2.mono HB1.out.size)
  refine ⟨hb2, ?_⟩
  have HB2 := hide hb2
  have RD2 := hide rd2
  clear rd2 hb2 b2 ho2 K2 KT KP
  refine ord_q (by rfl) (by rfl) (by rfl) (fun w9 h9 => (by go_simp; first | done | rfl)) (by go_simp; first | done | rfl) ?_
  refine ⟨fun _ h => (by cases h), ?_⟩
  obtain ⟨l2, hl2⟩ : ∃ l2, l2 = js0.length := ⟨_, rfl⟩
  rw [← hl2]
  have HL2 := hide hl2
  clear hl2
  by_cases h0 : l2 = 0
  · have hjs : js0 = [] := List.length_eq_zero_iff.1 (by rw [← HL2.out]; exact h0)
    have HB9 : Hid (bb = none) := by
      show bb = _
      rw [HBB.out, hjs, stepsB_end num infos all [] 0 rfl 9]
      rfl
    have HBF := hide (HBBW.out _ HB2.out)
    subst h0
    clear HBB hjs
    go_wp2
    refine bodyPost_ret (v := .tuple #[.int .i64 0, .bool false]) (by simp [results, Try.results10, go_sem]) rfl ⟨by rw [HB9.out]; rfl, HBF.out⟩
  · have h1 : 0 < l2 := by omega
    have HNE : Hid (js0 ≠ []) := fun h => h0 (by rw [HL2.out, h]; rfl)
    have f5 : ((l2 : Int) == 0) = false := by simp; omega
    obtain ⟨e0, e1, e2⟩ := HC.out w2 HB2.out
    have zw := World.block_lt_of_cell? w2 _ e0
    simp only at zw
    clear h0
    go_wp2_with fail
    refine (KQ.out _ (HBBW.out _ HB2.out)).mono ?_
    rintro e w3 ⟨⟨g, c3, rfl, hq3⟩, b3⟩
    have HQ3 := hide hq3
    have HB3 : Hid (Below w0.heap.size w0 w3) := HB2.out.trans (b3.mono HB2.out.size)
    have RD3 : Hid (IRd w3 a2 (jsI js0)) := RD2.out.below b3
    clear hq3 b3 RD2 e0 e1 e2 zw KQ
    go_wp2_with fail
    go_loopw [9, 28] (fun v i wq => ∃ (s : Nat) (a : Option Addr) (c : Nat), s ≤ 9 ∧ i = .int .i64 s ∧ v = .slice a (stepsB num infos all js0 s).length c ∧ Hid (IRd wq a (jsI (stepsB num infos all js0 s))) ∧ Hid (Below w3.heap.size w3 wq)) (fun _ i _ => 9 - (intOf i).toNat)
    case atStart => exact ⟨0, a2, c2, by omega, rfl, by rw [HL2.out]; rfl, RD3, Below.refl _ _⟩
    case round =>
      obtain ⟨s, a, c, hs, rfl, rfl, HRD, HBQ⟩ := hrel
      have hs0 : (0 : Int) ≤ (s : Int) := Int.natCast_nonneg _
      have HSE : Hid (s = 9 → stepsB num infos all js0 9 = stepsB num infos all js0 s) := fun h => by rw [h]
      have HJM : Hid (∀ j ∈ stepsB num infos all js0 s, j < m) := fun j hj => HFL.out j (stepsB_sub s hj)
      have HJL : Hid ((stepsB num infos all js0 s).length ≤ 3000) := Nat.le_trans (stepsB_length num infos all js0 s) HFN.out
      have HJN : Hid (stepsB num infos all js0 s ≠ []) := stepsB_ne HNE.out s
      have HS1 := hide (HSN.out s)
      by_cases hs9 : s < 9
      · have hs8 : (s : Int) < 9 := by omega
        obtain ⟨v, hv, hask⟩ := HQ3.out s hs9
        have cv : wr.cell? ⟨g, s, none⟩ = some v := by rw [HBQ.out.cell (p := ⟨g, s, none⟩) (World.block_lt_of_cell? w3 _ hv)]; exact hv
        obtain ⟨f, bnd, caps, rfl, ek, hf⟩ := hask
        have K := hide (hf wr a c (stepsB num infos all js0 s) HBQ.out HRD.out HJM.out HJL.out)
        rw [← HS1.out] at K
        obtain ⟨sn, hsn⟩ : ∃ sn, sn = stepsB num infos all js0 (s + 1) := ⟨_, rfl⟩
        rw [← hsn] at K
        have HSNN := hide hsn
        clear hsn HS1 HSE HJN HJM HJL HRD hv hf
        generalize (stepsB num infos all js0 s).length = ls at *
        have zg := World.block_lt_of_cell? wr _ cv
        simp only at zg
        go_wp2_with fail
        refine K.out.mono ?_
        rintro e w4 ⟨⟨a4, c4, rfl, hr4⟩, b4⟩
        have HR4 : Hid (IRd w4 a4 (jsI (stepsB num infos all js0 (s + 1)))) := by
          show IRd _ _ _
          rw [← HSNN.out]
          exact hr4
        have HB4 : Hid (Below w3.heap.size w3 w4) := HBQ.out.trans (b4.mono HBQ.out.size)
        clear hr4 b4 K cv zg
        go_wp2
        exact ⟨⟨s + 1, a4, c4, by omega, by go_num, by rw [HSNN.out], HR4, HB4⟩, by simp [intOf]; omega⟩
      · have hs8 : ¬ (s : Int) < 9 := by omega
        have hs99 : s = 9 := by omega
        rw [HSE.out hs99] at HBB
        clear HSE HS1 HSN HJM HJL
        have HBF : Hid (Below w.heap.size w wr) := (HBBW.out _ HB3.out).trans (HBQ.out.mono (HBBW.out _ HB3.out).size)
        match stepsB num infos all js0 s, HJN, HBB, HRD with
        | [], HJN, HBB, HRD => exact absurd rfl HJN.out
        | j0 :: jl, HJN, HBB, HRD =>
          obtain ⟨b, off, rfl, hc⟩ := HRD.out (by simp [jsI])
          have cj : wr.cell? ⟨b, off, none⟩ = some (.int .i64 (j0 : Int)) := hc 0 _ rfl
          have zb := World.block_lt_of_cell? wr _ cj
          simp only at zb
          have HBJ : Hid (bb = some j0) := HBB.out
          have hlen : (0 : Int) < (((j0 :: jl).length : Nat) : Int) := by simp
          clear hc HBB HRD HJN
          generalize (j0 :: jl).length = lj at *
          go_wp2
          refine bodyPost_ret (v := .tuple #[.int .i64 (j0 : Int), .bool true]) (by simp [results, Try.results10, go_sem]) rfl ⟨by rw [HBJ.out]; rfl, HBF.out⟩
end Go.Proofs.Ytolpaimmmhoiiaa
