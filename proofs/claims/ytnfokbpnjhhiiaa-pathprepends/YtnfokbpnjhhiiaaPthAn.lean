/- 'answers'. -/
import Derived.Test.YtnfokbpnjhhiiaaPthQc
import Derived.Test.YtnfokbpnjhhiiaaPthQn
import Derived.Test.YtnfokbpnjhhiiaaPthQt
namespace Go.Proofs.Ytnfokbpnjhhiiaa
open Go.RowKit
set_option maxRecDepth 100000

/-- The path of one number. -/
def seven : List (Bool × List Int) := [(false, [7])]
theorem seven_dec : segsRun (fun i => [2, 1, 0, 0, 0, 7].getD i 0) 6 0 [] = some seven := by rfl
theorem seven_enc : encPath seven = [2, 1, 0, 0, 0, 7] := by rfl
theorem seven_good : goodP seven = true := by decide
theorem seven_len : lenP seven = 1 := by decide
theorem seven_has : hasP seven 7 = true := by decide
theorem seven_first : firstV (firstP seven) = .tuple #[.int .i64 7, .bool true] := rfl
theorem seven_sum : seven.length + sumP seven ≤ 100000 := by decide
set_option maxHeartbeats 3200000 in
theorem answers_any (w : World) : Calls Try.prog 9 #[] w fun e w' => e = .returned (.bool true) ∧ Below w.heap.size w w' := by
  go_enter Try.func9, Try.ntmps9
  go_wp2_with fail
  refine (pdecode_any _ 6 6 (fun i => [2, 1, 0, 0, 0, 7].getD i 0) _ (by omega) (by omega) (fun j hj => by
    have : j = 0 ∨ j = 1 ∨ j = 2 ∨ j = 3 ∨ j = 4 ∨ j = 5 := by omega
    rcases this with rfl | rfl | rfl | rfl | rfl | rfl <;> decide) ⟨by unfold maxLen; omega, fun _ => ⟨w.heap.size, 0, by simp, fun j hj => by
      have : j = 0 ∨ j = 1 ∨ j = 2 ∨ j = 3 ∨ j = 4 ∨ j = 5 := by omega
      rcases this with rfl | rfl | rfl | rfl | rfl | rfl <;> simp [go_sem]⟩⟩).mono ?_
  rw [seven_dec]
  rintro e w1 ⟨⟨v, rfl, ho⟩, hb1⟩
  obtain ⟨a, c, rfl, hrd⟩ := ho.rd (by decide) (by decide)
  have HD := hide hrd
  have HB1 : Hid (Below w.heap.size w w1) := ((Below.refl _ _).alloc (Nat.le_refl _) _).trans (hb1.mono (by simp))
  clear ho hrd hb1
  rw [show seven.length = 1 from rfl]
  go_wp2_with fail
  refine (first_any a c seven w1 HD.out).mono ?_
  rw [seven_first]
  rintro e w2 ⟨rfl, hb2⟩
  have HD2 := hide (HD.out.below hb2)
  have HB2 : Hid (Below w.heap.size w w2) := HB1.out.trans (hb2.mono HB1.out.size)
  clear hb2 HD HB1
  go_wp2_with fail
  refine (len_any a c seven w2 seven_sum HD2.out).mono ?_
  rw [seven_len]
  rintro e w3 ⟨rfl, hb3⟩
  have HD3 := hide (HD2.out.below hb3)
  have HB3 : Hid (Below w.heap.size w w3) := HB2.out.trans (hb3.mono HB2.out.size)
  clear hb3 HD2 HB2
  go_wp2_with fail
  refine (has_any a c 7 seven w3 seven_sum HD3.out).mono ?_
  rw [seven_has]
  rintro e w4 ⟨rfl, hb4⟩
  have HD4 := hide (HD3.out.below hb4)
  have HB4 : Hid (Below w.heap.size w w4) := HB3.out.trans (hb4.mono HB3.out.size)
  clear hb4 HD3 HB3
  go_wp2_with fail
  refine (encode_any a c seven w4 seven_sum HD4.out).mono ?_
  rw [seven_enc]
  rintro e w5 ⟨v5, rfl, ho5, hb5⟩
  obtain ⟨g5, c5, rfl, _, _⟩ := ho5.form (by simp)
  rw [show [2, 1, 0, 0, 0, 7].length = 6 from rfl]
  have HD5 := hide (HD4.out.below hb5)
  have HB5 : Hid (Below w.heap.size w w5) := HB4.out.trans (hb5.mono HB4.out.size)
  clear hb5 HD4 HB4 ho5
  go_wp2_with fail
  refine (good_any a c seven w5 seven_sum HD5.out).mono ?_
  rw [seven_good]
  rintro e w6 ⟨rfl, hb6⟩
  have HB6 : Hid (Below w.heap.size w w6) := HB5.out.trans (hb6.mono HB5.out.size)
  clear hb6 HD5 HB5
  go_wp2
  go_ret
  exact ⟨rfl, HB6.out⟩
end Go.Proofs.Ytnfokbpnjhhiiaa
