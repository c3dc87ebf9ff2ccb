/- The program's Encode. -/
import Derived.Test.YtnbppedhcdjhjaaCpH
namespace Go.Proofs.Ytnbppedhcdjhjaa
open Go.RowKit
set_option maxRecDepth 100000

set_option maxHeartbeats 1600000 in
theorem encc_bad (c : Cp) (w : World) (h : goodC c = false) : Calls Try.prog 7 #[capV c] w fun e w' => ∃ v, e = .returned v ∧ w'.ownsRow w.heap.size 5 1 v (encCp c).length (bcells (encCp c)) ∧ Below w.heap.size w w' := by
  have HE : Hid (encCp c = []) := by show encCp c = []; unfold encCp; rw [h]; rfl
  have HG := hide (fun W => goodc_any c W)
  rw [h] at HG
  generalize encCp c = ec at *
  clear h
  obtain ⟨four, as4, gr, rs, tm, fam, fwd, ll, lt⟩ := c
  unfold capV at *
  simp only at *
  go_enter Try.func7, Try.ntmps7
  go_wp2_with fail
  refine (HG.out _).mono ?_
  rintro e w1 ⟨rfl, hb1⟩
  have HB1 : Hid (Below w.heap.size w w1) := (below_new w _).trans (hb1.mono (below_new w _).size)
  clear hb1
  go_wp2
  go_ret
  exact ⟨_, rfl, by rw [HE.out]; exact own_nil _ _ _ _, HB1.out⟩
set_option maxHeartbeats 1600000 in
theorem encc_good (c : Cp) (w : World) (h : goodC c = true) : Calls Try.prog 7 #[capV c] w fun e w' => ∃ v, e = .returned v ∧ w'.ownsRow w.heap.size 5 1 v (encCp c).length (bcells (encCp c)) ∧ Below w.heap.size w w' := by
  have HE : Hid (encCp c = if encIn c = [] then [] else tlv 2 (encIn c)) := by show encCp c = _; unfold encCp; rw [if_pos h]
  have HG := hide (fun W => goodc_any c W)
  rw [h] at HG
  have HL := hide (encIn_length c)
  have HLT := hide (encIn_lt h)
  have HH : Hid (∀ (W : World), Calls Try.prog 15 #[capV c, .func (.func 16) #[] #[.pointer (some ⟨W.heap.size, 0, none⟩)]] (W.alloc (.cells #[.slice none 0 0] 24)) fun e w' => e = .returned (.tuple #[]) ∧ ∃ a cc, w'.cell? ⟨W.heap.size, 0, none⟩ = some (.slice a (encIn c).length cc) ∧ w'.ownsRow W.heap.size 5 1 (.slice a (encIn c).length cc) (encIn c).length (bcells (encIn c)) ∧ Below W.heap.size W w') := fun W => by
    have hs : ESt (W.alloc (.cells #[.slice none 0 0] 24)) (W.heap.size + 1) W.heap.size [] := ⟨⟨none, 0, by simp [go_sem], own_nil _ _ _ _⟩, by simp [go_sem], Nat.lt_succ_self _, by simp⟩
    refine (handon_any (W.heap.size + 1) W.heap.size c _ h hs (by simp)).mono fun e w' ⟨h1, h2, h3⟩ => ⟨h1, ?_⟩
    obtain ⟨a, cc, k1, k2⟩ := h2.row
    exact ⟨a, cc, k1, own_base k2 (by omega), (below_new W _).trans (h3.below W.heap.size (below_new W _).size (fun b hb => by rcases hb with hb | hb <;> omega))⟩
  have HC0 : Hid (∀ X, Below (w.alloc (.cells (capC c) 23)).heap.size (w.alloc (.cells (capC c) 23)) X → BoxC X w.heap.size c) := fun X hb => (BoxC.new w c).block (hb.block _ (by simp))
  generalize encCp c = ec at *
  generalize encIn c = ei at *
  clear h
  unfold BoxC at HC0
  unfold capC at HC0
  obtain ⟨four, as4, gr, rs, tm, fam, fwd, ll, lt⟩ := c
  unfold capV at *
  simp only at *
  go_enter Try.func7, Try.ntmps7
  go_wp2_with fail
  refine (HG.out _).mono ?_
  rintro e w1 ⟨rfl, hb1⟩
  have HB1 : Hid (Below w.heap.size w w1) := (below_new w _).trans (hb1.mono (below_new w _).size)
  obtain ⟨x0, x1, x2, x3, x4, x5, x6, x7, x8⟩ := HC0.out w1 hb1
  have hz : w.heap.size < w1.heap.size := Nat.lt_of_lt_of_le (by simp) hb1.size
  clear hb1
  go_wp2_with fail
  refine (HH.out w1).mono ?_
  rintro e w2 ⟨rfl, a2, c2, y1, ho2, hb2⟩
  have HB2 : Hid (Below w.heap.size w w2) := HB1.out.trans (hb2.mono HB1.out.size)
  have HO2 : Hid (w2.ownsRow w.heap.size 5 1 (.slice a2 ei.length c2) ei.length (bcells ei)) := own_base ho2 HB1.out.size
  clear ho2 hb2 x0 x1 x2 x3 x4 x5 x6 x7 x8 HG HH HC0
  by_cases h0 : ei.length = 0
  · have hei : ei = [] := List.eq_nil_of_length_eq_zero h0
    have HE2 : Hid (ec = []) := by show ec = []; rw [HE.out, if_pos hei]
    rw [h0] at y1
    go_wp2
    go_ret
    exact ⟨_, rfl, by rw [HE2.out]; exact own_nil _ _ _ _, HB2.out⟩
  · have hei : ei ≠ [] := fun e => h0 (by rw [e]; rfl)
    have HE2 : Hid (ec = [] ++ tlv 2 ei) := by show ec = _; rw [HE.out, if_neg hei]; rfl
    obtain ⟨a3, c3, e3, _, hr⟩ := own_brd HO2.out (by have := HL.out; omega) HLT.out
    simp only [Value.slice.injEq, true_and] at e3
    obtain ⟨rfl, rfl⟩ := e3
    have HT := hide (aptold_any w2.heap.size (.slice none 0 0) [] 2 a2 c2 ei w2 (by omega) (by have := HL.out; omega) (by simp) (Nat.le_refl _) (own_nil _ _ _ _) hr (fun x _ => by simp [Value.ownBlock]))
    rw [← HE2.out] at HT
    have h0i : ((ei.length : Int) == 0) = false := by simpa using h0
    clear hr h0 hei HE HE2
    generalize ei.length = n at *
    go_wp2_with fail
    refine HT.out.mono ?_
    rintro e w3 ⟨v3, rfl, ho3, hb3⟩
    have HO3 : Hid (w3.ownsRow w.heap.size 5 1 v3 ec.length (bcells ec)) := own_base ho3 HB2.out.size
    have HB3 : Hid (Below w.heap.size w w3) := HB2.out.trans (hb3.mono HB2.out.size)
    clear ho3 hb3
    go_wp2
    go_ret
    exact ⟨_, rfl, HO3.out, HB3.out⟩
theorem encc_any (c : Cp) (w : World) : Calls Try.prog 7 #[capV c] w fun e w' => ∃ v, e = .returned v ∧ w'.ownsRow w.heap.size 5 1 v (encCp c).length (bcells (encCp c)) ∧ Below w.heap.size w w' := by
  cases h : goodC c with
  | true => exact encc_good c w h
  | false => exact encc_bad c w h
end Go.Proofs.Ytnbppedhcdjhjaa
