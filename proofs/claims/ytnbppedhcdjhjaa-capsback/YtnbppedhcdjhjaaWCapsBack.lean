/- CapsBack's walk. -/
import Derived.Test.YtnbppedhcdjhjaaCpAn
import Derived.Test.YtnbppedhcdjhjaaCpY
import Derived.Deep.RegionHeld3
import Derived.Deep.DeepCutAuto
namespace Go.Proofs.Ytnbppedhcdjhjaa
open Go.RowKit
set_option maxRecDepth 100000

set_option maxHeartbeats 3200000 in
theorem capsBack_walk (c : Cp) (w : World) : Calls Try.prog 3 #[capV c] w fun e w' => e = .returned (.bool true) ∧ Below w.heap.size w w' := by
  have KE := hide (fun W => encc_any c W)
  have KG := hide (fun W => goodc_any c W)
  have KR := hide (fun W => rgoodc_any c W)
  have KA := hide (fun W => rcaps_any c W)
  have HLT := hide (encCp_lt c)
  have HLN := hide (encCp_length c)
  have HNG : Hid (goodC c = false → (encCp c).length = 0) := fun h => by show (encCp c).length = 0; unfold encCp; rw [h]; rfl
  have HRB : Hid (goodC c = true → readC (encCp c) = some c) := fun h => readC_back c h
  have KS : Hid (∀ (W : World) (B1 B2 : Nat) (v1 v2 : Value), W.ownsRow B1 5 1 v1 (encCp c).length (bcells (encCp c)) → W.ownsRow B2 5 1 v2 (encCp c).length (bcells (encCp c)) → Calls Try.prog 10 #[v1, v2] W fun e w' => e = .returned (.bool true) ∧ Below W.heap.size W w') := fun W B1 B2 v1 v2 h1 h2 =>
    (sameb_any h1 h2 (by have := HLN.out; omega)).mono fun e w' ⟨he, m, hw⟩ => ⟨he, by rw [hw]; exact below_drewN (Below.refl _ _) m⟩
  have KD : Hid (goodC c = true → ∀ (W : World) (B : Nat) (a1 : Option Addr) (c1 : Nat), W.ownsRow B 5 1 (.slice a1 (encCp c).length c1) (encCp c).length (bcells (encCp c)) → Calls Try.prog 13 #[.slice a1 (encCp c).length c1] W fun e w' => e = .returned (.tuple #[capV c, .bool true]) ∧ Below W.heap.size W w') := fun hg W B a1 c1 ho => by
    obtain ⟨a, c9, h1, h2⟩ := dec_own ho (by have := HLN.out; omega) HLT.out
    simp only [Value.slice.injEq, true_and] at h1
    obtain ⟨rfl, rfl⟩ := h1
    rw [HRB.out hg] at h2
    exact h2
  obtain ⟨wb, hwb⟩ : ∃ wb, wb = w.alloc (.cells (capC c) 23) := ⟨_, rfl⟩
  have HBb : Hid (Below w.heap.size w wb) := by show Below _ _ _; rw [hwb]; exact below_new _ _
  have HBX : Hid (∀ X, Below wb.heap.size wb X → BoxC X w.heap.size c) := fun X hb => by
    have h1 : BoxC wb w.heap.size c := by rw [hwb]; exact BoxC.new w c
    exact h1.block (hb.block _ (by rw [hwb]; simp))
  generalize hec : encCp c = ec at *
  clear hec HRB HLT HLN
  generalize goodC c = g at *
  obtain ⟨four, as4, gr, rs, tm, fam, fwd, ll, lt⟩ := c
  unfold capV BoxC capC at *
  simp only at *
  generalize ec.length = el at *
  go_enter Try.func3, Try.ntmps3
  go_wp2_with fail
  rw [← hwb]
  refine (KE.out wb).mono ?_
  rintro e w1 ⟨v1, rfl, ho1, hb1⟩
  obtain ⟨a1, c1, rfl⟩ := own_shape ho1
  have HW1 := hide hb1
  have HO1 := hide (ho1.drew)
  have HDW : Hid (Below wb.heap.size wb w1.drew) := hb1.drew
  clear hb1 ho1 KE hwb
  have HSd := hide (HBX.out w1.drew HDW.out)
  have HKG := hide (KG.out w1.drew)
  go_upto_region 2 with fail
  go_cut [19] (fun v wq => v = .bool false ∧ Hid (wq.ownsRow wb.heap.size 5 1 (.slice a1 el c1) el (bcells ec)) ∧ Hid (Below wb.heap.size wb wq))
  case first =>
    go_region_held3 (fun w' => w'.cell? ⟨w.heap.size, 0, none⟩ = some (.bool four) ∧ w'.cell? ⟨w.heap.size, 1, none⟩ = some (.int .i64 as4) ∧ w'.cell? ⟨w.heap.size, 2, none⟩ = some (.bool gr) ∧ w'.cell? ⟨w.heap.size, 3, none⟩ = some (.bool rs) ∧ w'.cell? ⟨w.heap.size, 4, none⟩ = some (.int .i64 tm) ∧ w'.cell? ⟨w.heap.size, 5, none⟩ = some (.bool fam) ∧ w'.cell? ⟨w.heap.size, 6, none⟩ = some (.bool fwd) ∧ w'.cell? ⟨w.heap.size, 7, none⟩ = some (.bool ll) ∧ w'.cell? ⟨w.heap.size, 8, none⟩ = some (.int .i64 lt))
      (with_reducible first | exact HSd.out | exact HS2.out | exact HS3.out | exact HS4.out | exact HS5.out | fail)
      (first
        | (go_at_call 8
           with_reducible refine HKG.out.mono ?_
           rintro e w2 ⟨rfl, hb2⟩
           have HW2 := hide (HDW.out.trans (hb2.mono HDW.out.size))
           have HO2 := hide (own_later HO1.out hb2)
           have HS2 := hide (HBX.out w2 HW2.out)
           have HKR := hide (KR.out w2)
           clear hb2)
        | (go_at_call 9
           with_reducible refine HKR.out.mono ?_
           rintro e w3 ⟨rfl, hb3⟩
           have HW3 := hide (HW2.out.trans (hb3.mono HW2.out.size))
           have HO3 := hide (own_later HO2.out hb3)
           have HS3 := hide (HBX.out w3 HW3.out)
           have HKA := hide (KA.out w3)
           clear hb3)
        | (go_at_call 11
           with_reducible refine HKA.out.mono ?_
           rintro e w4 ⟨v4, rfl, ho4, hb4⟩
           have HW4 := hide (HW3.out.trans (hb4.mono HW3.out.size))
           have HO4 := hide (own_later HO3.out hb4)
           have HS4 := hide (HBX.out w4 HW4.out)
           have HKS := hide (KS.out w4 _ _ _ _ HO4.out ho4)
           clear hb4 ho4)
        | (go_at_call 10
           with_reducible refine HKS.out.mono ?_
           rintro e w5 ⟨rfl, hb5⟩
           have HW5 := hide (HW4.out.trans (hb5.mono HW4.out.size))
           have HO5 := hide (own_later HO4.out hb5)
           have HS5 := hide (HBX.out w5 HW5.out)
           clear hb5))
    all_goals go_wp2_with fail
    all_goals go_meet
    all_goals exact ⟨rfl, HO5, HW5⟩
  case rest =>
    obtain ⟨rfl, HO6, HW6⟩ := hcut
    clear HSd HKG HDW HO1 HW1 KG KA KS
    obtain ⟨w6, hw6⟩ : ∃ w6 : World, w6 = wc := ⟨wc, rfl⟩
    subst hw6
    have HB6 : Hid (Below w.heap.size w w6) := HBb.out.trans (HW6.out.mono HBb.out.size)
    obtain ⟨x0, x1, x2, x3, x4, x5, x6, x7, x8⟩ := HBX.out w6 HW6.out
    go_wp2_with fail
    refine (KR.out w6).mono ?_
    rintro e w7 ⟨rfl, hb7⟩
    have HW7 := hide (HW6.out.trans (hb7.mono HW6.out.size))
    have HB7 := hide (HB6.out.trans (hb7.mono HB6.out.size))
    have HO7 := hide (own_later HO6.out hb7)
    clear hb7 HO6 HW6 HB6 KR x0 x1 x2 x3 x4 x5 x6 x7 x8
    cases g with
    | false =>
      have hel : el = 0 := HNG.out rfl
      subst hel
      go_wp2_with fail
      refine (ans_any w7).mono ?_
      rintro e w8 ⟨rfl, hb8⟩
      have HB8 := hide (HB7.out.trans (hb8.mono HB7.out.size))
      clear hb8
      go_wp2
      go_ret
      exact ⟨rfl, HB8.out⟩
    | true =>
      have HD := hide (KD.out rfl w7 _ a1 c1 HO7.out)
      go_wp2_with fail
      refine HD.out.mono ?_
      rintro e w8 ⟨rfl, hb8⟩
      have HW8 := hide (HW7.out.trans (hb8.mono HW7.out.size))
      have HB8 := hide (HB7.out.trans (hb8.mono HB7.out.size))
      clear hb8
      obtain ⟨wd, hwd⟩ : ∃ wd, wd = w8.alloc (.cells #[.bool four, .int .i64 as4, .bool gr, .bool rs, .int .i64 tm, .bool fam, .bool fwd, .bool ll, .int .i64 lt] 23) := ⟨_, rfl⟩
      have hbd : Below w8.heap.size w8 wd := by rw [hwd]; exact below_new _ _
      have HBD : Hid (∀ X, Below wd.heap.size wd X → BoxC X w8.heap.size ⟨four, as4, gr, rs, tm, fam, fwd, ll, lt⟩ ∧ w8.heap.size < X.heap.size) := fun X hb => by
        have h1 : BoxC wd w8.heap.size ⟨four, as4, gr, rs, tm, fam, fwd, ll, lt⟩ := by rw [hwd]; exact BoxC.new w8 ⟨four, as4, gr, rs, tm, fam, fwd, ll, lt⟩
        have h2 := h1.block (hb.block _ (by rw [hwd]; simp))
        exact ⟨h2, h2.size⟩
      unfold BoxC at HBD
      simp only at HBD
      go_wp2_with fail
      rw [← hwd]
      refine (ans_any wd).mono ?_
      rintro e w9 ⟨rfl, hb9⟩
      obtain ⟨⟨y0, y1, y2, y3, y4, y5, y6, y7, y8⟩, hy⟩ := HBD.out w9 hb9
      have h89 : Below w8.heap.size w8 w9 := hbd.trans (hb9.mono hbd.size)
      have hbx := HBX.out w9 (HW8.out.trans (h89.mono HW8.out.size))
      obtain ⟨x0, x1, x2, x3, x4, x5, x6, x7, x8⟩ := hbx
      have hxs : w.heap.size < w9.heap.size := by have := World.block_lt_of_cell? w9 _ x0; simpa using this
      have HB9 := hide (HB8.out.trans (h89.mono HB8.out.size))
      clear hb9 h89 hwd hbd
      go_wp2
      go_ret
      exact ⟨rfl, HB9.out⟩
end Go.Proofs.Ytnbppedhcdjhjaa
