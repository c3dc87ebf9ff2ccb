/- PathTells' walk. -/
import Derived.Test.YtnfokbpnjhhiiaaPthAn
import Derived.Test.YtnfokbpnjhhiiaaPthSl
import Derived.Test.YtnfokbpnjhhiiaaPthFr
namespace Go.Proofs.Ytnfokbpnjhhiiaa
open Go.RowKit
set_option maxRecDepth 100000

theorem smallP_le {ss : List (Bool × List Int)} (h : smallP ss = true) : ss.length + sumP ss ≤ 100000 := by
  have := of_decide_eq_true h
  omega
set_option maxHeartbeats 1600000 in
theorem tells_small (a : Option Addr) (c n : Nat) (ss : List (Bool × List Int)) (z : Int) (w : World) (hn : ss.length = n) (hz : sizeP ss) (h : PthRd w a ss) (hs : smallP ss = true) :
    Calls Try.prog 5 #[.slice a n c, .int .i64 z] w fun e w' => e = .returned (.bool true) ∧ Below w.heap.size w w' := by
  have hl := smallP_le hs
  have K0 := hide (small_any a c ss w hz.1 hz.2 h)
  have K1 : Hid (∀ w1, Below w.heap.size w w1 → Calls Try.prog 18 #[.slice a ss.length c] w1 fun e w' => e = .returned (firstV (firstP ss)) ∧ Below w1.heap.size w1 w') := fun w1 hb => first_any a c ss w1 (h.below hb)
  have K2 : Hid (∀ w1, Below w.heap.size w w1 → Calls Try.prog 19 #[.slice a ss.length c] w1 fun e w' => e = .returned (firstV (firstP ss)) ∧ w' = w1) := fun w1 hb => rfirst_any a c ss w1 (h.below hb)
  have K3 : Hid (∀ w1, Below w.heap.size w w1 → Calls Try.prog 20 #[.slice a ss.length c] w1 fun e w' => e = .returned (.int .i64 (lenP ss : Int)) ∧ Below w1.heap.size w1 w') := fun w1 hb => len_any a c ss w1 hl (h.below hb)
  have K4 : Hid (∀ w1, Below w.heap.size w w1 → Calls Try.prog 21 #[.slice a ss.length c] w1 fun e w' => e = .returned (.int .i64 (lenP ss : Int)) ∧ w' = w1) := fun w1 hb => rlen_any a c ss w1 hl (h.below hb)
  have K5 : Hid (∀ w1, Below w.heap.size w w1 → Calls Try.prog 22 #[.slice a ss.length c, .int .i64 z] w1 fun e w' => e = .returned (.bool (hasP ss z)) ∧ Below w1.heap.size w1 w') := fun w1 hb => has_any a c z ss w1 hl (h.below hb)
  have K6 : Hid (∀ w1, Below w.heap.size w w1 → Calls Try.prog 23 #[.slice a ss.length c, .int .i64 z] w1 fun e w' => e = .returned (.bool (hasP ss z)) ∧ w' = w1) := fun w1 hb => rhas_any a c z ss w1 hl (h.below hb)
  rw [hs] at K0
  rw [hn] at K0 K1 K2 K3 K4 K5 K6
  clear h hz hs hl hn
  generalize lenP ss = x at *
  generalize hasP ss z = y at *
  generalize firstP ss = fo at *
  have ⟨f, t, hf⟩ : ∃ (f : Int) (t : Bool), firstV fo = .tuple #[.int .i64 f, .bool t] := by
    cases fo with
    | none => exact ⟨0, false, rfl⟩
    | some q => exact ⟨q, true, rfl⟩
  rw [hf] at K1 K2
  clear hf
  go_enter Try.func5, Try.ntmps5
  go_wp2_with fail
  refine K0.out.mono ?_
  rintro e w0 ⟨rfl, rfl⟩
  go_wp2_with fail
  refine (K1.out _ (Below.refl _ _)).mono ?_
  rintro e w1 ⟨rfl, hb1⟩
  have HB1 := hide hb1
  clear hb1
  go_wp2_with fail
  refine (K2.out _ HB1.out).mono ?_
  rintro e w2 ⟨rfl, rfl⟩
  go_wp2_with fail
  refine (answers_any _).mono ?_
  rintro e w3 ⟨rfl, hb3⟩
  have HB3 : Hid (Below _ _ w3) := HB1.out.trans (hb3.mono HB1.out.size)
  clear hb3 HB1
  go_wp2_with fail
  refine (K3.out _ HB3.out).mono ?_
  rintro e w4 ⟨rfl, hb4⟩
  have HB4 : Hid (Below _ _ w4) := HB3.out.trans (hb4.mono HB3.out.size)
  clear hb4 HB3
  go_wp2_with fail
  refine (K4.out _ HB4.out).mono ?_
  rintro e w5 ⟨rfl, rfl⟩
  go_wp2_with fail
  refine (K5.out _ HB4.out).mono ?_
  rintro e w6 ⟨rfl, hb6⟩
  have HB6 : Hid (Below _ _ w6) := HB4.out.trans (hb6.mono HB4.out.size)
  clear hb6 HB4
  go_wp2_with fail
  refine (K6.out _ HB6.out).mono ?_
  rintro e w7 ⟨rfl, rfl⟩
  go_wp2
  go_ret
  exact ⟨by simp, HB6.out⟩
set_option maxHeartbeats 400000 in
theorem tells_great (a : Option Addr) (c n : Nat) (ss : List (Bool × List Int)) (z : Int) (w : World) (hn : ss.length = n) (hz : sizeP ss) (h : PthRd w a ss) (hs : smallP ss = false) :
    Calls Try.prog 5 #[.slice a n c, .int .i64 z] w fun e w' => e = .returned (.bool true) ∧ Below w.heap.size w w' := by
  have K0 := hide (small_any a c ss w hz.1 hz.2 h)
  rw [hs, hn] at K0
  clear h hz hs hn
  go_enter Try.func5, Try.ntmps5
  go_wp2_with fail
  refine K0.out.mono ?_
  rintro e w0 ⟨rfl, rfl⟩
  go_wp2_with fail
  refine (answers_any _).mono ?_
  rintro e w3 ⟨rfl, hb3⟩
  have HB3 := hide hb3
  clear hb3
  go_wp2
  go_ret
  exact ⟨rfl, HB3.out⟩
theorem pathTells_walk (a : Option Addr) (c : Nat) (ss : List (Bool × List Int)) (z : Int) (w : World) (_hc : ss.length ≤ c) (hz : sizeP ss) (h : PthRd w a ss) (_hw : (Lit.int IntKind.i64 z).wf = true) :
    Calls Try.prog 5 #[.slice a ss.length c, .int .i64 z] w fun e w' => e = .returned (.bool true) ∧ Below w.heap.size w w' := by
  cases hs : smallP ss with
  | true => exact tells_small a c _ ss z w rfl hz h hs
  | false => exact tells_great a c _ ss z w rfl hz h hs
end Go.Proofs.Ytnfokbpnjhhiiaa
