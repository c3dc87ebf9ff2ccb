/- CapsCut's walk. -/
import Derived.Test.YtnbppedhcdjhjaaCpAn
import Derived.Test.YtnbppedhcdjhjaaCpY
namespace Go.Proofs.Ytnbppedhcdjhjaa
open Go.RowKit
set_option maxRecDepth 100000

theorem brd_take {w : World} {a : Option Addr} {bs : List Nat} (h : BRd w a bs) (k : Nat) : BRd w a (bs.take k) := by
  refine ⟨⟨by have := h.1.1; rw [List.length_take]; omega, fun hp => ?_⟩, fun x hx => h.2 x (List.mem_of_mem_take hx)⟩
  rw [List.length_take] at hp
  obtain ⟨b, o, rfl, hc⟩ := h.1.2 (by omega)
  refine ⟨b, o, rfl, fun i hi => ?_⟩
  rw [List.length_take] at hi
  have h9 : w.cell? ⟨b, o + i, none⟩ = some (.int .u8 (bs.getD i 0 : Int)) := hc i (by omega)
  show _ = some (Value.int .u8 (((bs.take k).getD i 0 : Nat) : Int))
  rw [h9, List.getD_eq_getElem?_getD, List.getD_eq_getElem?_getD, List.getElem?_take_of_lt (by omega)]
/-- An empty row that was made just now. -/
theorem own_empty (w : World) : (w.alloc (.cells #[] 5)).ownsRow w.heap.size 5 1 (.slice (some ⟨w.heap.size, 0, none⟩) 0 0) 0 (bcells []) :=
  ⟨rfl, .inr ⟨w.heap.size, 0, #[], rfl, Nat.le_refl _, by unfold World.alloc; exact Array.getElem?_push_size, Nat.le_refl _, by unfold maxLen; omega, rfl, rfl⟩⟩
section
attribute [local go_sem ↓] kept_append
set_option maxHeartbeats 3200000 in
theorem capsCut_in (c : Cp) (at2 more : Nat) (w : World) (ha : at2 < 256) (hm : more < 256) : Calls Try.prog 6 #[capV c, .int .u8 (at2 : Int), .int .u8 (more : Int)] w fun e w' => e = .returned (.bool true) ∧ Below w.heap.size w w' := by
  have KA := hide (fun W => rcaps_any c W)
  have HLT := hide (encCp_lt c)
  have HLN := hide (encCp_length c)
  have HCUT : Hid (encCp c ≠ [] → ∀ k, k < (encCp c).length → (readC ((encCp c).take k)).isSome = decide (k = 0)) := fun h k hk => readC_cut c h k hk
  have HMORE : Hid (encCp c ≠ [] → readC (encCp c ++ [more]) = none) := fun h => readC_more c h more
  obtain ⟨wb, hwb⟩ : ∃ wb, wb = w.alloc (.cells (capC c) 23) := ⟨_, rfl⟩
  have HBb : Hid (Below w.heap.size w wb) := by show Below _ _ _; rw [hwb]; exact below_new _ _
  generalize encCp c = ec at *
  obtain ⟨four, as4, gr, rs, tm, fam, fwd, ll, lt⟩ := c
  unfold capV capC at *
  simp only at *
  obtain ⟨el, hel⟩ : ∃ el, ec.length = el := ⟨_, rfl⟩
  rw [hel] at KA
  have HEL := hide hel
  clear hel
  go_enter Try.func6, Try.ntmps6
  go_wp2_with fail
  rw [← hwb]
  refine (KA.out wb).mono ?_
  rintro e w1 ⟨v1, rfl, ho1, hb1⟩
  have HB1 : Hid (Below w.heap.size w w1) := HBb.out.trans (hb1.mono HBb.out.size)
  by_cases h0 : el = 0
  · obtain ⟨a1, c1, rfl⟩ := own_shape ho1
    subst h0
    clear ho1 hb1
    go_wp2_with fail
    refine (ans_any w1).mono ?_
    rintro e w2 ⟨rfl, hb2⟩
    have HB2 := hide (HB1.out.trans (hb2.mono HB1.out.size))
    clear hb2
    go_wp2
    go_ret
    exact ⟨rfl, HB2.out⟩
  · have hne : ec ≠ [] := fun e => h0 (by rw [← HEL.out, e]; rfl)
    have hel25 : el ≤ 25 := by have := HLN.out; have := HEL.out; omega
    obtain ⟨k, hk⟩ : ∃ k, k = at2 % el := ⟨_, rfl⟩
    have hkl : k < el := by rw [hk]; exact Nat.mod_lt _ (by omega)
    have hki : (at2 : Int) % (el : Int) = (k : Int) := by rw [hk]; simp
    have ho1' := ho1
    rw [← HEL.out] at ho1'
    obtain ⟨a1, c1, hv1, hc1, hr1⟩ := own_brd ho1' (by have := HLN.out; omega) HLT.out
    rw [HEL.out] at hv1 hc1
    subst hv1
    obtain ⟨g, c9, e9, _, _⟩ := ho1.form (by omega)
    simp only [Value.slice.injEq, true_and] at e9
    obtain ⟨rfl, rfl⟩ := e9
    have hkt : (ec.take k).length = k := by rw [List.length_take, HEL.out]; omega
    have HD1 := hide (decc_any (some ⟨g, 0, none⟩) c1 (ec.take k) w1 (by omega) (by omega) (brd_take hr1 k))
    rw [hkt] at HD1
    unfold decV at HD1
    rw [HCUT.out hne k (by rw [HEL.out]; exact hkl)] at HD1
    obtain ⟨⟨F0, F1, F2, F3, F4, F5, F6, F7, F8⟩, hF⟩ : ∃ cc, cc = (readC (ec.take k)).getD cp0 := ⟨_, rfl⟩
    rw [← hF] at HD1
    unfold capV at HD1
    simp only at HD1
    have HR1 := hide hr1
    have h0i : ((el : Int) == 0) = false := by simpa using h0
    have hel0 : (el : Int) ≠ 0 := by omega
    have hk0 : (0 : Int) ≤ (k : Int) := Int.natCast_nonneg _
    have hkc : (k : Int) ≤ (c1 : Int) := by omega
    clear hF hkt hr1 ho1' HCUT hk ho1
    go_wp2_with fail
    refine HD1.out.mono ?_
    rintro e w2 ⟨rfl, hb2⟩
    have HB2 := hide (HB1.out.trans (hb2.mono HB1.out.size))
    have hr2 := HR1.out.below hb2
    obtain ⟨w3, hw3⟩ : ∃ w3, w3 = w2.alloc (.cells #[.bool F0, .int .i64 F1, .bool F2, .bool F3, .int .i64 F4, .bool F5, .bool F6, .bool F7, .int .i64 F8] 23) := ⟨_, rfl⟩
    have hb3 : Below w2.heap.size w2 w3 := by rw [hw3]; exact below_new _ _
    have hr3 := hr2.below hb3
    have HB3 := hide (HB2.out.trans (hb3.mono HB2.out.size))
    have hb4 : Below w3.heap.size w3 (w3.alloc (.cells #[] 5)) := below_new _ _
    obtain ⟨v5, w5, hr5, ho5, hb5⟩ := app_brd (n := 0) (ys := []) ec (some ⟨g, 0, none⟩) c1 rfl (own_empty w3) hb4.size (by have := HEL.out; omega) (hr3.below hb4)
    rw [HEL.out] at hr5
    have hB5 : w3.heap.size ≤ w5.heap.size := Nat.le_trans hb4.size hb5.size
    obtain ⟨v6, w6, hr6, ho6, hb6, _⟩ := more_bytes ho5 hB5 [more] 1 #[.int .u8 (more : Int)] rfl (by omega) rfl (by have := HEL.out; simp only [List.nil_append]; omega)
    rw [List.nil_append] at ho6
    obtain ⟨a6, c6, hv6, hd6⟩ := dec_own ho6 (by have := HEL.out; simp; omega) (fun x hx => by
      rcases List.mem_append.1 hx with h | h
      · exact HLT.out x h
      · simp at h; omega)
    subst hv6
    rw [HMORE.out hne] at hd6
    unfold decV capV cp0 at hd6
    simp only [Option.getD_none, Option.isSome_none] at hd6
    have hs3 : w3.heap.size = w2.heap.size + 1 := by rw [hw3]; simp
    rw [hs3] at hr5
    have HR5 := hide hr5
    have HR6 := hide hr6
    have HD6 := hide hd6
    have HB6 : Hid (Below w.heap.size w w6) := HB3.out.trans (((hb4.trans hb5).trans hb6).mono HB3.out.size)
    clear hs3 hb2 hr2 hb3 hr3 hb4 hr5 ho5 hb5 hr6 ho6 hb6 hd6 HD1 HR1 hB5
    generalize (ec ++ [more]).length = n7 at *
    go_wp2_with fail
    rw [← hw3]
    refine kept_append_intro _ _ (.slice (some ⟨w2.heap.size + 1, 0, none⟩) 0 0) (.slice (some ⟨g, 0, none⟩) el c1) v5 (w' := w5) (by rfl) (by rfl) (by with_reducible exact HR5.out) ?_
    go_wp2_with fail
    refine kept_append_intro _ _ v5 (.slice (some ⟨w5.heap.size, 0, none⟩) 1 1) _ (w' := w6) (by rfl) (by rfl) (by with_reducible exact HR6.out) ?_
    go_wp2_with fail
    refine HD6.out.mono ?_
    rintro e w7 ⟨rfl, hb7⟩
    have HB7 := hide (HB6.out.trans (hb7.mono HB6.out.size))
    clear hb7
    go_wp2_with fail
    refine (ans_any _).mono ?_
    rintro e w8 ⟨rfl, hb8⟩
    have HB8 : Hid (Below w.heap.size w w8) := HB7.out.trans (((below_new w7 _).trans (hb8.mono (below_new w7 _).size)).mono HB7.out.size)
    clear hb8
    go_wp2
    · go_ret
      exact ⟨rfl, HB8.out⟩
    · rename_i h9
      exact absurd (by by_cases h : k = 0 <;> simp [h]) h9
end
theorem capsCut_walk (c : Cp) (z1 z2 : Int) (W : World) (w1 : (Lit.int IntKind.u8 z1).wf = true) (w2 : (Lit.int IntKind.u8 z2).wf = true) : Calls Try.prog 6 #[capV c, .int .u8 z1, .int .u8 z2] W fun e W' => e = .returned (.bool true) ∧ Below W.heap.size W W' := by
  have b1 := bounds_u8 w1
  have b2 := bounds_u8 w2
  obtain ⟨n1, rfl⟩ := Int.eq_ofNat_of_zero_le (show 0 ≤ z1 by omega)
  obtain ⟨n2, rfl⟩ := Int.eq_ofNat_of_zero_le (show 0 ≤ z2 by omega)
  exact capsCut_in c n1 n2 W (by omega) (by omega)
end Go.Proofs.Ytnbppedhcdjhjaa
