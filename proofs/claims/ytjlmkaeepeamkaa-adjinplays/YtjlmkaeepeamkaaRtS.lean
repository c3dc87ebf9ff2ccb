/- The document's SameRoute; the program's Same. -/
import Derived.Test.YtjlmkaeepeamkaaRtP
import Derived.Test.YtjlmkaeepeamkaaAtSy
namespace Go.Proofs.Ytjlmkaeepeamkaa
open Go.RowKit
set_option maxRecDepth 100000

set_option maxHeartbeats 3200000 in
theorem samer_at (A1 A2 : Nat) (L1 L2 p1 p2 : Int) (o1 : Int) (pa1 : Option Addr) (pn1 pc1 nx1 : Nat) (md1 pf1 : Int) (ca1 : Option Addr) (cn1 cc1 : Nat) (ra1 : Option Addr) (rn1 rc1 : Nat) (o2 : Int) (pa2 : Option Addr) (pn2 pc2 nx2 : Nat) (md2 pf2 : Int) (ca2 : Option Addr) (cn2 cc2 : Nat) (ra2 : Option Addr) (rn2 rc2 : Nat) (s1 s2 : Int) (d : Bool) (w : World)
    (K : ∀ w1, Below w.heap.size w w1 → Calls Try.prog 24 #[.agg #[.int .i64 o1, .slice pa1 pn1 pc1, .int .u32 (nx1 : Int), .int .i64 md1, .int .i64 pf1, .slice ca1 cn1 cc1, .slice ra1 rn1 rc1], .agg #[.int .i64 o2, .slice pa2 pn2 pc2, .int .u32 (nx2 : Int), .int .i64 md2, .int .i64 pf2, .slice ca2 cn2 cc2, .slice ra2 rn2 rc2]] w1 fun e w' => e = .returned (.bool d) ∧ Below w1.heap.size w1 w') :
    Calls Try.prog 15 #[.agg #[.int .u32 (A1 : Int), .int .i64 L1, .int .i64 p1, .int .i64 o1, .slice pa1 pn1 pc1, .int .u32 (nx1 : Int), .int .i64 md1, .int .i64 pf1, .slice ca1 cn1 cc1, .slice ra1 rn1 rc1, .int .i64 s1], .agg #[.int .u32 (A2 : Int), .int .i64 L2, .int .i64 p2, .int .i64 o2, .slice pa2 pn2 pc2, .int .u32 (nx2 : Int), .int .i64 md2, .int .i64 pf2, .slice ca2 cn2 cc2, .slice ra2 rn2 rc2, .int .i64 s2]] w fun e w' => e = .returned (.bool (decide (A1 = A2) && decide (L1 = L2) && decide (p1 = p2) && decide (s1 = s2) && d)) ∧ Below w.heap.size w w' := by
  have hbb : ∀ p q, Below w.heap.size w ((w.alloc p).alloc q) := fun p q => ((Below.refl _ _).alloc (Nat.le_refl _) _).alloc (by simp) _
  have HK := hide K
  clear K
  by_cases eA : A1 = A2
  · subst eA
    by_cases eL : L1 = L2
    · subst eL
      by_cases eP : p1 = p2
      · subst eP
        by_cases eS : s1 = s2
        · subst eS
          have HD : Hid ((decide (A1 = A1) && decide (L1 = L1) && decide (p1 = p1) && decide (s1 = s1) && d) = d) := by show (_ : Bool) = _; simp
          rw [HD.out]
          clear HD
          go_enter Try.func15, Try.ntmps15
          go_wp2_with fail
          refine (HK.out _ (hbb _ _)).mono ?_
          rintro e w1 ⟨rfl, hb⟩
          have HB : Hid (Below w.heap.size w w1) := (hbb _ _).trans (hb.mono (by simp <;> omega))
          clear hb
          go_wp2
          go_ret
          exact ⟨rfl, HB.out⟩
        · have HD : Hid ((decide (A1 = A1) && decide (L1 = L1) && decide (p1 = p1) && decide (s1 = s2) && d) = false) := by show (_ : Bool) = _; simp [eS]
          rw [HD.out]
          have f : (s1 == s2) = false := by simpa using eS
          clear HD HK
          go_enter Try.func15, Try.ntmps15
          go_wp2
          go_ret
          exact ⟨rfl, hbb _ _⟩
      · have HD : Hid ((decide (A1 = A1) && decide (L1 = L1) && decide (p1 = p2) && decide (s1 = s2) && d) = false) := by show (_ : Bool) = _; simp [eP]
        rw [HD.out]
        have f : (p1 == p2) = false := by simpa using eP
        clear HD HK
        go_enter Try.func15, Try.ntmps15
        go_wp2
        go_ret
        exact ⟨rfl, hbb _ _⟩
    · have HD : Hid ((decide (A1 = A1) && decide (L1 = L2) && decide (p1 = p2) && decide (s1 = s2) && d) = false) := by show (_ : Bool) = _; simp [eL]
      rw [HD.out]
      have f : (L1 == L2) = false := by simpa using eL
      clear HD HK
      go_enter Try.func15, Try.ntmps15
      go_wp2
      go_ret
      exact ⟨rfl, hbb _ _⟩
  · have HD : Hid ((decide (A1 = A2) && decide (L1 = L2) && decide (p1 = p2) && decide (s1 = s2) && d) = false) := by show (_ : Bool) = _; simp [eA]
    rw [HD.out]
    have f : (A1 == A2) = false := by simpa using eA
    have f2 : ((A1 : Int) == (A2 : Int)) = false := by simp; omega
    clear HD HK
    go_enter Try.func15, Try.ntmps15
    go_wp2
    go_ret
    exact ⟨rfl, hbb _ _⟩
theorem samer_any (pa1 : Option Addr) (pc1 : Nat) (ca1 : Option Addr) (cc1 : Nat) (ra1 : Option Addr) (rc1 : Nat) (pa2 : Option Addr) (pc2 : Nat) (ca2 : Option Addr) (cc2 : Nat) (ra2 : Option Addr) (rc2 : Nat) (a b : Rt) (w : World) (hl : sizeA a.att ≤ 100000) (hl2 : sizeA b.att ≤ 100000) (h1 : AtRd w pa1 ca1 ra1 a.att) (h2 : AtRd w pa2 ca2 ra2 b.att) :
    Calls Try.prog 15 #[rtV pa1 pc1 ca1 cc1 ra1 rc1 a, rtV pa2 pc2 ca2 cc2 ra2 rc2 b] w fun e w' => e = .returned (.bool (eqRt a b)) ∧ Below w.heap.size w w' :=
  samer_at a.A b.A a.L b.L a.peer b.peer a.att.origin pa1 _ pc1 a.att.next a.att.med a.att.pref ca1 _ cc1 ra1 _ rc1 b.att.origin pa2 _ pc2 b.att.next b.att.med b.att.pref ca2 _ cc2 ra2 _ rc2 a.stale b.stale (eqA a.att b.att) w
    (fun w1 hb => samea_any pa1 pa2 pc1 pc2 ca1 ca2 cc1 cc2 ra1 ra2 rc1 rc2 a.att b.att w1 hl hl2 (h1.below hb) (h2.below hb))
end Go.Proofs.Ytjlmkaeepeamkaa
