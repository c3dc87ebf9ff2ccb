/- The document's Hop and GoodAttrs. -/
import Derived.Test.YtclihbfjendllaaDoorKAf
import Derived.Test.YtclihbfjendllaaDoorKAb
import Derived.Deep.QuietTactic
import Derived.BigQuiet
namespace Go.Proofs.YtclihbfjendllaaDoor
open Go.RowKit
set_option maxRecDepth 100000

set_option maxHeartbeats 800000 in
theorem hop_any (n : Nat) (w : World) : Calls Tryd.prog 21 #[.int .u32 (n : Int)] w fun e w' => e = .returned (.bool (hopB n)) ∧ w' = w := by
  have hs : (n : Int) / 2 ^ 24 = ((n / 16777216 : Nat) : Int) := by omega
  by_cases h0 : n = 0
  · subst h0
    go_enter Tryd.func21, Tryd.ntmps21
    go_wp2
    go_ret
    exact ⟨rfl, rfl⟩
  · have e0 : ((n : Int) != 0) = true := by simp; omega
    by_cases h1 : n / 16777216 = 127
    · have HH : Hid (hopB n = false) := decide_eq_false (fun h => h.2.1 h1)
      have e1 : (n : Int) / 16777216 = 127 := by omega
      go_enter Tryd.func21, Tryd.ntmps21
      go_wp2
      go_ret
      exact ⟨ret_bool HH.out.symm, rfl⟩
    · have e1 : ((n : Int) / 16777216 != 127) = true := by simp; omega
      have HH : Hid (hopB n = decide ((n : Int) / 16777216 < 224)) := by
        show hopB n = _
        unfold hopB
        rw [Bool.eq_iff_iff]
        simp only [decide_eq_true_eq]
        omega
      clear hs
      go_enter Tryd.func21, Tryd.ntmps21
      go_wp2
      go_ret
      exact ⟨ret_bool HH.out.symm, rfl⟩
set_option maxHeartbeats 3200000 in
theorem gooda_no (o : Int) (pa : Option Addr) (pn pc : Nat) (nx : Nat) (md pf : Int) (ca : Option Addr) (cn cc : Nat) (ra : Option Addr) (rn rc : Nat) (g h : Bool) (w : World)
    (KP : Hid (∀ w1, Below w.heap.size w w1 → Calls Tryd.prog 48 #[.slice pa pn pc] w1 fun e w' => e = .returned (.bool g) ∧ w' = w1)) (KH : Hid (∀ w1, Calls Tryd.prog 21 #[.int .u32 (nx : Int)] w1 fun e w' => e = .returned (.bool h) ∧ w' = w1))
    (hno : (decide (0 ≤ o ∧ o ≤ 2) && g && h && decide (-1 ≤ md ∧ md ≤ 4294967295) && decide (-1 ≤ pf ∧ pf ≤ 4294967295) && decide (cn ≤ 32)) = false) :
    Calls Tryd.prog 31 #[.agg #[.int .i64 o, .slice pa pn pc, .int .u32 (nx : Int), .int .i64 md, .int .i64 pf, .slice ca cn cc, .slice ra rn rc]] w fun e w' => e = .returned (.bool false) ∧ Below w.heap.size w w' := by
  have HNO := hide hno
  clear hno
  by_cases c1 : o < 0
  · clear HNO
    go_enter Tryd.func31, Tryd.ntmps31
    go_wp2
    go_ret
    exact ⟨rfl, (Below.refl _ _).alloc (Nat.le_refl _) _⟩
  · have d1 : decide (o < 0) = false := decide_eq_false c1
    by_cases c2 : 2 < o
    · clear HNO
      go_enter Tryd.func31, Tryd.ntmps31
      go_wp2
      go_ret
      exact ⟨rfl, (Below.refl _ _).alloc (Nat.le_refl _) _⟩
    · have d2 : decide (2 < o) = false := decide_eq_false c2
      cases g with
      | false =>
        clear HNO
        go_enter Tryd.func31, Tryd.ntmps31
        go_wp2_with fail
        refine (KP.out _ ((Below.refl _ _).alloc (Nat.le_refl _) _)).mono ?_
        rintro e w1 ⟨rfl, rfl⟩
        go_wp2
        go_ret
        exact ⟨rfl, (Below.refl _ _).alloc (Nat.le_refl _) _⟩
      | true =>
        cases h with
        | false =>
          clear HNO
          go_enter Tryd.func31, Tryd.ntmps31
          go_wp2_with fail
          refine (KP.out _ ((Below.refl _ _).alloc (Nat.le_refl _) _)).mono ?_
          rintro e w1 ⟨rfl, rfl⟩
          go_wp2_with fail
          refine (KH.out _).mono ?_
          rintro e w1 ⟨rfl, rfl⟩
          go_wp2
          go_ret
          exact ⟨rfl, (Below.refl _ _).alloc (Nat.le_refl _) _⟩
        | true =>
          by_cases c3 : md < -1
          · clear HNO
            go_enter Tryd.func31, Tryd.ntmps31
            go_wp2_with fail
            refine (KP.out _ ((Below.refl _ _).alloc (Nat.le_refl _) _)).mono ?_
            rintro e w1 ⟨rfl, rfl⟩
            go_wp2_with fail
            refine (KH.out _).mono ?_
            rintro e w1 ⟨rfl, rfl⟩
            go_wp2
            go_ret
            exact ⟨rfl, (Below.refl _ _).alloc (Nat.le_refl _) _⟩
          · have d3 : decide (md < -1) = false := decide_eq_false c3
            by_cases c4 : 4294967295 < md
            · clear HNO
              go_enter Tryd.func31, Tryd.ntmps31
              go_wp2_with fail
              refine (KP.out _ ((Below.refl _ _).alloc (Nat.le_refl _) _)).mono ?_
              rintro e w1 ⟨rfl, rfl⟩
              go_wp2_with fail
              refine (KH.out _).mono ?_
              rintro e w1 ⟨rfl, rfl⟩
              go_wp2
              go_ret
              exact ⟨rfl, (Below.refl _ _).alloc (Nat.le_refl _) _⟩
            · have d4 : decide (4294967295 < md) = false := decide_eq_false c4
              by_cases c5 : pf < -1
              · clear HNO
                go_enter Tryd.func31, Tryd.ntmps31
                go_wp2_with fail
                refine (KP.out _ ((Below.refl _ _).alloc (Nat.le_refl _) _)).mono ?_
                rintro e w1 ⟨rfl, rfl⟩
                go_wp2_with fail
                refine (KH.out _).mono ?_
                rintro e w1 ⟨rfl, rfl⟩
                go_wp2
                go_ret
                exact ⟨rfl, (Below.refl _ _).alloc (Nat.le_refl _) _⟩
              · have d5 : decide (pf < -1) = false := decide_eq_false c5
                by_cases c6 : 4294967295 < pf
                · clear HNO
                  go_enter Tryd.func31, Tryd.ntmps31
                  go_wp2_with fail
                  refine (KP.out _ ((Below.refl _ _).alloc (Nat.le_refl _) _)).mono ?_
                  rintro e w1 ⟨rfl, rfl⟩
                  go_wp2_with fail
                  refine (KH.out _).mono ?_
                  rintro e w1 ⟨rfl, rfl⟩
                  go_wp2
                  go_ret
                  exact ⟨rfl, (Below.refl _ _).alloc (Nat.le_refl _) _⟩
                · have d6 : decide (4294967295 < pf) = false := decide_eq_false c6
                  have c7 : (32 : Int) < (cn : Int) := by
                    have h9 := HNO.out
                    rw [decide_eq_true (by omega), decide_eq_true (by omega), decide_eq_true (by omega)] at h9
                    simp only [Bool.true_and, Bool.and_true, decide_eq_false_iff_not] at h9
                    omega
                  clear HNO
                  go_enter Tryd.func31, Tryd.ntmps31
                  go_wp2_with fail
                  refine (KP.out _ ((Below.refl _ _).alloc (Nat.le_refl _) _)).mono ?_
                  rintro e w1 ⟨rfl, rfl⟩
                  go_wp2_with fail
                  refine (KH.out _).mono ?_
                  rintro e w1 ⟨rfl, rfl⟩
                  go_wp2
                  go_ret
                  exact ⟨rfl, (Below.refl _ _).alloc (Nat.le_refl _) _⟩
end Go.Proofs.YtclihbfjendllaaDoor
