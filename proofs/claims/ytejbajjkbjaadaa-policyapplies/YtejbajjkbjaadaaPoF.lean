/- 'answers'. -/
import Derived.Test.YtejbajjkbjaadaaPoE
namespace Go.Proofs.Ytejbajjkbjaadaa
open Go.RowKit
set_option maxRecDepth 100000

theorem apply_is {a : Option Addr} {n c A : Nat} {L : Int} {l : List Rul} {x : Int} {y : Bool} (w : World) (hn : n ≤ 1000) (hl : l.length = n) (hr : RulesIn w a l) (hA : A < 4294967296) (h : applyR l A L = (x, y)) :
    Calls Try.prog 7 #[.slice a n c, pfx A L] w fun e w' => e = .returned (.tuple #[.int .i64 x, .bool y]) ∧ Below w.heap.size w w' := by
  have := apply_any a n c A L l w hn hl hr hA
  rw [h] at this
  exact this
theorem rapply_is {a : Option Addr} {n c A : Nat} {L : Int} {l : List Rul} {x : Int} {y : Bool} (w : World) (hn : n ≤ 1000) (hl : l.length = n) (hr : RulesIn w a l) (hA : A < 4294967296) (h : applyR l A L = (x, y)) :
    Calls Try.prog 8 #[.slice a n c, pfx A L] w fun e w' => e = .returned (.tuple #[.int .i64 x, .bool y]) ∧ Below w.heap.size w w' := by
  have := rapply_any a n c A L l w hn hl hr hA
  rw [h] at this
  exact this
theorem good_is {a : Option Addr} {n c : Nat} {l : List Rul} {y : Bool} (w : World) (hn : n ≤ 1000) (hl : l.length = n) (hr : RulesIn w a l) (h : goodL l = y) :
    Calls Try.prog 9 #[.slice a n c] w fun e w' => e = .returned (.bool y) ∧ Below w.heap.size w w' := by
  rw [← h]
  exact good_any a n c l w hn hl hr
theorem rgood_is {a : Option Addr} {n c : Nat} {l : List Rul} {y : Bool} (w : World) (hn : n ≤ 1000) (hl : l.length = n) (hr : RulesIn w a l) (h : goodL l = y) :
    Calls Try.prog 10 #[.slice a n c] w fun e w' => e = .returned (.bool y) ∧ Below w.heap.size w w' := by
  rw [← h]
  exact rgood_any a n c l w hn hl hr
theorem cov_zero : covB 0 0 0 0 = true := by decide
theorem spk_all : spk 0 0 ⟨0, 0, 0, 32, true, 0⟩ = true := by
  unfold spk
  rw [cov_zero]
  rfl
theorem apply_all : applyR [⟨0, 0, 0, 32, true, 0⟩] 0 0 = (0, false) := applyR_some (k := 0) (r := ⟨0, 0, 0, 32, true, 0⟩) rfl spk_all (fun i r hi => absurd hi (by omega))
theorem apply_nil (A : Nat) (L : Int) : applyR [] A L = (-1, true) := rfl
/-- One rule that was laid just now. -/
theorem rules_one {w : World} {g : Nat} {r : Rul} (h : RulAt w g 0 r) (hA : r.A < 4294967296) : RulesIn w (some ⟨g, 0, none⟩) [r] := .inr ⟨g, 0, rfl, fun i r' hr => by
  cases i with
  | zero => simp at hr; subst hr; exact ⟨h, hA⟩
  | succ i => simp at hr⟩
set_option maxHeartbeats 1600000 in
theorem answers_any (w : World) : Calls Try.prog 6 #[] w fun e w' => e = .returned (.bool true) ∧ Below w.heap.size w w' := by
  go_enter Try.func6, Try.ntmps6
  go_wp2_with fail
  refine (apply_is (n := 0) (A := 0) (L := 0) (l := []) w (by omega) rfl (.inl rfl) (by omega) (apply_nil 0 0)).mono ?_
  rintro e w1 ⟨rfl, hb1⟩
  have HB1 := hide hb1
  clear hb1
  go_wp2_with fail
  refine (apply_is (n := 1) (A := 0) (L := 0) (l := [⟨0, 0, 0, 32, true, 0⟩]) _ (by omega) rfl (rules_one (box_rule w1 ⟨0, 0, 0, 32, true, 0⟩ 32) (by simp)) (by omega) apply_all).mono ?_
  rintro e w2 ⟨rfl, hb2⟩
  have HB2 : Hid (Below w.heap.size w w2) := (HB1.out.alloc HB1.out.size _).trans (hb2.mono (by have := HB1.out.size; simp; omega))
  clear hb2
  go_wp2_with fail
  refine (good_any none 0 0 [] w2 (by omega) rfl (.inl rfl)).mono ?_
  rintro e w3 ⟨rfl, hb3⟩
  have HB3 : Hid (Below w.heap.size w w3) := HB2.out.trans (hb3.mono HB2.out.size)
  clear hb3
  go_wp2
  go_ret
  exact ⟨rfl, HB3.out⟩
end Go.Proofs.Ytejbajjkbjaadaa
