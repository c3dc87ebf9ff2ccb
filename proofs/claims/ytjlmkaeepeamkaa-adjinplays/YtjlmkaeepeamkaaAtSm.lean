/- The document's SameAttrs. -/
import Derived.Test.YtjlmkaeepeamkaaHAt
import Derived.Test.YtjlmkaeepeamkaaPthSm
import Derived.Deep.QuietTactic
import Derived.BigQuiet
namespace Go.Proofs.Ytjlmkaeepeamkaa
open Go.RowKit
set_option maxRecDepth 100000

/-- The same but for communities and Raws, of which there are as many. -/
def eqHead (a b : At) : Bool := decide (a.origin = b.origin) && eqP a.path b.path && decide (a.next = b.next) && decide (a.med = b.med) && decide (a.pref = b.pref) && decide (a.comms.length = b.comms.length) && decide (a.raws.length = b.raws.length)
/-- The same attributes? -/
def eqA (a b : At) : Bool := eqHead a b && decide (a.comms = b.comms) && decide (a.raws = b.raws)
set_option maxHeartbeats 6400000 in
theorem samea_no (o1 : Int) (pa1 : Option Addr) (pn1 pc1 : Nat) (nx1 : Nat) (md1 pf1 : Int) (ca1 : Option Addr) (cn1 cc1 : Nat) (ra1 : Option Addr) (rn1 rc1 : Nat) (o2 : Int) (pa2 : Option Addr) (pn2 pc2 : Nat) (nx2 : Nat) (md2 pf2 : Int) (ca2 : Option Addr) (cn2 cc2 : Nat) (ra2 : Option Addr) (rn2 rc2 : Nat) (g : Bool) (w : World)
    (KS : Hid (∀ w1, Below w.heap.size w w1 → Calls Try.prog 37 #[.slice pa1 pn1 pc1, .slice pa2 pn2 pc2] w1 fun e w' => e = .returned (.bool g) ∧ ∃ m, w' = w1.drewN m))
    (hno : (decide (o1 = o2) && g && decide (nx1 = nx2) && decide (md1 = md2) && decide (pf1 = pf2) && decide (cn1 = cn2) && decide (rn1 = rn2)) = false) :
    Calls Try.prog 24 #[.agg #[.int .i64 o1, .slice pa1 pn1 pc1, .int .u32 (nx1 : Int), .int .i64 md1, .int .i64 pf1, .slice ca1 cn1 cc1, .slice ra1 rn1 rc1], .agg #[.int .i64 o2, .slice pa2 pn2 pc2, .int .u32 (nx2 : Int), .int .i64 md2, .int .i64 pf2, .slice ca2 cn2 cc2, .slice ra2 rn2 rc2]] w fun e w' => e = .returned (.bool false) ∧ Below w.heap.size w w' := by
  have hbb : ∀ p q, Below w.heap.size w ((w.alloc p).alloc q) := fun p q => ((Below.refl _ _).alloc (Nat.le_refl _) _).alloc (by simp) _
  have HNO := hide hno
  clear hno
  by_cases c1 : o1 = o2
  · subst c1
    cases g with
    | false =>
      clear HNO
      go_enter Try.func24, Try.ntmps24
      go_wp2_with fail
      refine (KS.out _ (hbb _ _)).mono ?_
      rintro e w1 ⟨rfl, m, rfl⟩
      go_wp2
      go_ret
      exact ⟨rfl, below_drewN (hbb _ _) m⟩
    | true =>
      by_cases c2 : nx1 = nx2
      · subst c2
        by_cases c3 : md1 = md2
        · subst c3
          by_cases c4 : pf1 = pf2
          · subst c4
            by_cases c5 : cn1 = cn2
            · subst c5
              have c6 : rn1 ≠ rn2 := by
                have h9 := HNO.out
                intro e
                subst e
                simp at h9
              have d6 : ((rn1 : Int) != (rn2 : Int)) = true := by simp; omega
              have d6n : (rn1 != rn2) = true := by simpa using c6
              clear HNO
              go_enter Try.func24, Try.ntmps24
              go_wp2_with fail
              refine (KS.out _ (hbb _ _)).mono ?_
              rintro e w1 ⟨rfl, m, rfl⟩
              go_wp2
              go_ret
              exact ⟨rfl, below_drewN (hbb _ _) m⟩
            · have d5 : ((cn1 : Int) != (cn2 : Int)) = true := by simp; omega
              have d5n : (cn1 != cn2) = true := by simpa using c5
              clear HNO
              go_enter Try.func24, Try.ntmps24
              go_wp2_with fail
              refine (KS.out _ (hbb _ _)).mono ?_
              rintro e w1 ⟨rfl, m, rfl⟩
              go_wp2
              go_ret
              exact ⟨rfl, below_drewN (hbb _ _) m⟩
          · have d4 : (pf1 != pf2) = true := by simpa using c4
            clear HNO
            go_enter Try.func24, Try.ntmps24
            go_wp2_with fail
            refine (KS.out _ (hbb _ _)).mono ?_
            rintro e w1 ⟨rfl, m, rfl⟩
            go_wp2
            go_ret
            exact ⟨rfl, below_drewN (hbb _ _) m⟩
        · have d3 : (md1 != md2) = true := by simpa using c3
          clear HNO
          go_enter Try.func24, Try.ntmps24
          go_wp2_with fail
          refine (KS.out _ (hbb _ _)).mono ?_
          rintro e w1 ⟨rfl, m, rfl⟩
          go_wp2
          go_ret
          exact ⟨rfl, below_drewN (hbb _ _) m⟩
      · have d2 : ((nx1 : Int) != (nx2 : Int)) = true := by simp; omega
        have d2n : (nx1 != nx2) = true := by simpa using c2
        clear HNO
        go_enter Try.func24, Try.ntmps24
        go_wp2_with fail
        refine (KS.out _ (hbb _ _)).mono ?_
        rintro e w1 ⟨rfl, m, rfl⟩
        go_wp2
        go_ret
        exact ⟨rfl, below_drewN (hbb _ _) m⟩
  · have d1 : (o1 != o2) = true := by simpa using c1
    clear HNO KS
    go_enter Try.func24, Try.ntmps24
    go_wp2
    go_ret
    exact ⟨rfl, hbb _ _⟩
end Go.Proofs.Ytjlmkaeepeamkaa
