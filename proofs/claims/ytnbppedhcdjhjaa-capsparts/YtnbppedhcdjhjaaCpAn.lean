/- The document's sample. -/
import Derived.Test.YtnbppedhcdjhjaaCpI
import Derived.Test.YtnbppedhcdjhjaaCpW
namespace Go.Proofs.Ytnbppedhcdjhjaa
open Go.RowKit
set_option maxRecDepth 100000

/-- A row of the call's own is read. -/
theorem dec_own {w : World} {B : Nat} {v : Value} {bs : List Nat} (ho : w.ownsRow B 5 1 v bs.length (bcells bs)) (hl : bs.length ≤ 10000) (hb : ∀ x ∈ bs, x < 256) :
    ∃ a c, v = .slice a bs.length c ∧ Calls Try.prog 13 #[.slice a bs.length c] w fun e w' => e = .returned (decV (readC bs)) ∧ Below w.heap.size w w' := by
  obtain ⟨a, c, rfl, hc, hr⟩ := own_brd ho (by omega) hb
  exact ⟨a, c, rfl, decc_any a c bs w hl hc hr⟩
set_option maxHeartbeats 1600000 in
theorem ans_any (w : World) : Calls Try.prog 12 #[] w fun e w' => e = .returned (.bool true) ∧ Below w.heap.size w w' := by
  have hg : goodC ⟨true, 70000, false, false, 0, false, false, false, 0⟩ = true := by decide
  have HE := hide (fun W => encc_any ⟨true, 70000, false, false, 0, false, false, false, 0⟩ W)
  have HG := hide (fun W => goodc_any ⟨true, 70000, false, false, 0, false, false, false, 0⟩ W)
  rw [hg] at HG
  have HRB := hide (readC_back ⟨true, 70000, false, false, 0, false, false, false, 0⟩ hg)
  have HLT := hide (encCp_lt ⟨true, 70000, false, false, 0, false, false, false, 0⟩)
  have HLN := hide (encCp_length ⟨true, 70000, false, false, 0, false, false, false, 0⟩)
  generalize encCp ⟨true, 70000, false, false, 0, false, false, false, 0⟩ = ec at *
  have HD : Hid (∀ (W : World) (B : Nat) (v : Value), W.ownsRow B 5 1 v ec.length (bcells ec) → ∃ a c, v = .slice a ec.length c ∧ Calls Try.prog 13 #[.slice a ec.length c] W fun e w' => e = .returned (.tuple #[.agg #[.bool true, .int .i64 70000, .bool false, .bool false, .int .i64 0, .bool false, .bool false, .bool false, .int .i64 0], .bool true]) ∧ Below W.heap.size W w') := fun W B v ho => by
    obtain ⟨a, c, h1, h2⟩ := dec_own ho (by have := HLN.out; omega) HLT.out
    rw [HRB.out] at h2
    exact ⟨a, c, h1, h2⟩
  unfold capV at *
  clear hg HRB HLT HLN
  generalize ec.length = n at *
  obtain ⟨wb, hwb⟩ : ∃ wb, wb = w.alloc (.cells #[.bool true, .int .i64 70000, .bool false, .bool false, .int .i64 0, .bool false, .bool false, .bool false, .int .i64 0] 23) := ⟨_, rfl⟩
  have HBB : Hid (Below w.heap.size w wb) := by show Below _ _ _; rw [hwb]; exact below_new _ _
  have HBX : Hid (∀ X, Below wb.heap.size wb X → BoxC X w.heap.size ⟨true, 70000, false, false, 0, false, false, false, 0⟩) := fun X hb => by
    have h1 : BoxC wb w.heap.size ⟨true, 70000, false, false, 0, false, false, false, 0⟩ := by rw [hwb]; exact BoxC.new w ⟨true, 70000, false, false, 0, false, false, false, 0⟩
    exact h1.block (hb.block _ (by rw [hwb]; simp))
  go_enter Try.func12, Try.ntmps12
  go_wp2_with fail
  rw [← hwb]
  refine (HE.out wb).mono ?_
  rintro e w1 ⟨v1, rfl, ho1, hb1⟩
  obtain ⟨a1, c1, rfl, hd⟩ := HD.out w1 _ v1 ho1
  have HDD := hide hd
  have HB1 := hide hb1
  clear ho1 hb1 hd hwb HD
  go_wp2_with fail
  refine HDD.out.mono ?_
  rintro e w2 ⟨rfl, hb2⟩
  have HW2 : Hid (Below wb.heap.size wb w2) := HB1.out.trans (hb2.mono HB1.out.size)
  have HB2 : Hid (Below w.heap.size w w2) := HBB.out.trans (HW2.out.mono HBB.out.size)
  have h3 := HBX.out w2 HW2.out
  have hz := h3.size
  obtain ⟨x0, x1, x2, x3, x4, x5, x6, x7, x8⟩ := h3
  clear hb2
  simp only at x0 x1 x2 x3 x4 x5 x6 x7 x8
  go_wp2_with fail
  refine (HG.out _).mono ?_
  rintro e w3 ⟨rfl, hb3⟩
  have HB3 : Hid (Below w.heap.size w w3) := HB2.out.trans (((below_new w2 _).trans (hb3.mono (below_new w2 _).size)).mono HB2.out.size)
  clear hb3
  go_wp2
  go_ret
  exact ⟨rfl, HB3.out⟩
end Go.Proofs.Ytnbppedhcdjhjaa
