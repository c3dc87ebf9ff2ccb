/- The orders of prefixes, of a peer's routes and of a prefix's routes. -/
import Derived.Test.YtjlmkaeepeamkaaHAc
import Derived.Sort.Grow
namespace Go.Proofs.Ytjlmkaeepeamkaa
open Go.RowKit
set_option maxRecDepth 100000

/-- -1, 0 or 1. -/
def cmpI (x y : Int) : Int := if x < y then -1 else if y < x then 1 else 0
set_option maxHeartbeats 800000 in
theorem nanu_any (x : Int) (w : World) : Calls Try.prog 67 #[.int .u32 x] w fun e w' => e = .returned (.bool false) ∧ w' = w := by
  go_enter Try.func67, Try.ntmps67
  go_wp2
  go_ret
  exact ⟨ret_bool (by simp), rfl⟩
set_option maxHeartbeats 800000 in
theorem nani_any (x : Int) (w : World) : Calls Try.prog 58 #[.int .i64 x] w fun e w' => e = .returned (.bool false) ∧ w' = w := by
  go_enter Try.func58, Try.ntmps58
  go_wp2
  go_ret
  exact ⟨ret_bool (by simp), rfl⟩
set_option maxHeartbeats 800000 in
theorem cmpu_any (x y : Int) (w : World) : Calls Try.prog 43 #[.int .u32 x, .int .u32 y] w fun e w' => e = .returned (.int .i64 (cmpI x y)) ∧ w' = w := by
  by_cases h1 : x < y
  · have HR : Hid (cmpI x y = -1) := by show cmpI x y = -1; unfold cmpI; simp [h1]
    go_enter Try.func43, Try.ntmps43
    go_wp2_with ((go_at_call 67; refine (nanu_any _ _).mono ?_; rintro e w1 ⟨rfl, rfl⟩))
    go_ret
    exact ⟨ret_int HR.out.symm, rfl⟩
  · by_cases h2 : y < x
    · have HR : Hid (cmpI x y = 1) := by show cmpI x y = 1; unfold cmpI; simp [h1, h2]
      go_enter Try.func43, Try.ntmps43
      go_wp2_with ((go_at_call 67; refine (nanu_any _ _).mono ?_; rintro e w1 ⟨rfl, rfl⟩))
      go_ret
      exact ⟨ret_int HR.out.symm, rfl⟩
    · have HR : Hid (cmpI x y = 0) := by show cmpI x y = 0; unfold cmpI; simp [h1, h2]
      go_enter Try.func43, Try.ntmps43
      go_wp2_with ((go_at_call 67; refine (nanu_any _ _).mono ?_; rintro e w1 ⟨rfl, rfl⟩))
      go_ret
      exact ⟨ret_int HR.out.symm, rfl⟩
set_option maxHeartbeats 800000 in
theorem cmpi_any (x y : Int) (w : World) : Calls Try.prog 41 #[.int .i64 x, .int .i64 y] w fun e w' => e = .returned (.int .i64 (cmpI x y)) ∧ w' = w := by
  by_cases h1 : x < y
  · have HR : Hid (cmpI x y = -1) := by show cmpI x y = -1; unfold cmpI; simp [h1]
    go_enter Try.func41, Try.ntmps41
    go_wp2_with ((go_at_call 58; refine (nani_any _ _).mono ?_; rintro e w1 ⟨rfl, rfl⟩))
    go_ret
    exact ⟨ret_int HR.out.symm, rfl⟩
  · by_cases h2 : y < x
    · have HR : Hid (cmpI x y = 1) := by show cmpI x y = 1; unfold cmpI; simp [h1, h2]
      go_enter Try.func41, Try.ntmps41
      go_wp2_with ((go_at_call 58; refine (nani_any _ _).mono ?_; rintro e w1 ⟨rfl, rfl⟩))
      go_ret
      exact ⟨ret_int HR.out.symm, rfl⟩
    · have HR : Hid (cmpI x y = 0) := by show cmpI x y = 0; unfold cmpI; simp [h1, h2]
      go_enter Try.func41, Try.ntmps41
      go_wp2_with ((go_at_call 58; refine (nani_any _ _).mono ?_; rintro e w1 ⟨rfl, rfl⟩))
      go_ret
      exact ⟨ret_int HR.out.symm, rfl⟩
/-- By the address, then by the length. -/
def cmpP (A : Nat) (L : Int) (B : Nat) (M : Int) : Int := if cmpI A B ≠ 0 then cmpI A B else cmpI L M
set_option maxHeartbeats 800000 in
theorem compare_any (A B : Nat) (L M : Int) (w : World) : Calls Try.prog 32 #[pfV A L, pfV B M] w fun e w' => e = .returned (.int .i64 (cmpP A L B M)) ∧ (∃ os, w' = Sort.grow w os) := by
  by_cases h : cmpI A B = 0
  · have HP : Hid (cmpP A L B M = cmpI L M) := by show cmpP A L B M = _; unfold cmpP; simp [h]
    have HH := hide h
    clear h
    go_enter Try.func32, Try.ntmps32
    go_wp2_with fail
    refine (cmpu_any _ _ _).mono ?_
    rw [HH.out]
    rintro e w1 ⟨rfl, rfl⟩
    go_wp2_with fail
    refine (cmpi_any _ _ _).mono ?_
    rintro e w1 ⟨rfl, rfl⟩
    go_wp2
    go_ret
    exact ⟨ret_int HP.out.symm, _, by rw [Sort.alloc_eq_grow, Sort.alloc_eq_grow, Sort.grow_grow]⟩
  · have HP : Hid (cmpP A L B M = cmpI A B) := by show cmpP A L B M = _; unfold cmpP; simp [h]
    have e0 : (cmpI A B != 0) = true := by simpa using h
    clear h
    go_enter Try.func32, Try.ntmps32
    go_wp2_with fail
    refine (cmpu_any _ _ _).mono ?_
    rintro e w1 ⟨rfl, rfl⟩
    go_wp2
    go_ret
    exact ⟨ret_int HP.out.symm, _, by rw [Sort.alloc_eq_grow, Sort.alloc_eq_grow, Sort.grow_grow]⟩
section
attribute [local go_sem ↓] keptR_load keptR_store keptR_box keptR_alloc keptR_build
set_option maxHeartbeats 1600000 in
theorem byPrefix_any (pa : Option Addr) (pc : Nat) (ca : Option Addr) (cc : Nat) (ra : Option Addr) (rc : Nat) (r : Rt) (pa2 : Option Addr) (pc2 : Nat) (ca2 : Option Addr) (cc2 : Nat) (ra2 : Option Addr) (rc2 : Nat) (s : Rt) (w : World) :
    Calls Try.prog 28 #[.agg (rtC pa pc ca cc ra rc r), .agg (rtC pa2 pc2 ca2 cc2 ra2 rc2 s)] w fun e w' => e = .returned (.int .i64 (cmpP r.A r.L s.A s.L)) ∧ ∃ os, w' = Sort.grow w os := by
  go_enter Try.func28, Try.ntmps28
  go_wp2_with fail
  refine kept_box_intro _ _ _ (by rfl) (run_boxR _ w) ?_
  go_wp2_with fail
  refine kept_box_intro _ _ _ (by rfl) (run_boxR _ _) ?_
  obtain ⟨W0, hW0⟩ : ∃ W0, W0 = (w.alloc (.cells (rtC pa pc ca cc ra rc r) 36)).alloc (.cells (rtC pa2 pc2 ca2 cc2 ra2 rc2 s) 36) := ⟨_, rfl⟩
  have hb0 : Bl W0 w.heap.size (rtC pa pc ca cc ra rc r) := by rw [hW0]; exact (Bl.new w _).below ((Below.refl _ _).alloc (Nat.le_refl _) _)
  have hb1 : Bl W0 (w.heap.size + 1) (rtC pa2 pc2 ca2 cc2 ra2 rc2 s) := by rw [hW0]; have := Bl.new (w.alloc (.cells (rtC pa pc ca cc ra rc r) 36)) (rtC pa2 pc2 ca2 cc2 ra2 rc2 s); simpa using this
  have HG : Hid (∃ os, W0 = Sort.grow w os) := ⟨_, by rw [hW0, Sort.alloc_eq_grow, Sort.alloc_eq_grow, Sort.grow_grow]⟩
  rw [← hW0]
  simp only [World.size_alloc]
  have c0 := hb0.cell 0 rfl
  have c1 := hb0.cell 1 rfl
  have d0 := hb1.cell 0 rfl
  have d1 := hb1.cell 1 rfl
  have z0 := hb0.lt
  have z1 := hb1.lt
  clear hb0 hb1 hW0
  go_wp2_with fail
  refine (compare_any r.A s.A r.L s.L W0).mono ?_
  rintro e w1 ⟨rfl, hg⟩
  have HH : Hid (∃ os, w1 = Sort.grow w os) := by
    obtain ⟨os, h1⟩ := HG.out
    obtain ⟨os2, h2⟩ := hg
    exact ⟨os ++ os2, by rw [h2, h1, Sort.grow_grow]⟩
  clear hg HG c0 c1 d0 d1 z0 z1
  go_wp2
  go_ret
  exact ⟨rfl, HH.out⟩
set_option maxHeartbeats 1600000 in
theorem byPeer_any (pa : Option Addr) (pc : Nat) (ca : Option Addr) (cc : Nat) (ra : Option Addr) (rc : Nat) (r : Rt) (pa2 : Option Addr) (pc2 : Nat) (ca2 : Option Addr) (cc2 : Nat) (ra2 : Option Addr) (rc2 : Nat) (s : Rt) (w : World) :
    Calls Try.prog 30 #[.agg (rtC pa pc ca cc ra rc r), .agg (rtC pa2 pc2 ca2 cc2 ra2 rc2 s)] w fun e w' => e = .returned (.int .i64 (cmpI r.peer s.peer)) ∧ ∃ os, w' = Sort.grow w os := by
  go_enter Try.func30, Try.ntmps30
  go_wp2_with fail
  refine kept_box_intro _ _ _ (by rfl) (run_boxR _ w) ?_
  go_wp2_with fail
  refine kept_box_intro _ _ _ (by rfl) (run_boxR _ _) ?_
  obtain ⟨W0, hW0⟩ : ∃ W0, W0 = (w.alloc (.cells (rtC pa pc ca cc ra rc r) 36)).alloc (.cells (rtC pa2 pc2 ca2 cc2 ra2 rc2 s) 36) := ⟨_, rfl⟩
  have hb0 : Bl W0 w.heap.size (rtC pa pc ca cc ra rc r) := by rw [hW0]; exact (Bl.new w _).below ((Below.refl _ _).alloc (Nat.le_refl _) _)
  have hb1 : Bl W0 (w.heap.size + 1) (rtC pa2 pc2 ca2 cc2 ra2 rc2 s) := by rw [hW0]; have := Bl.new (w.alloc (.cells (rtC pa pc ca cc ra rc r) 36)) (rtC pa2 pc2 ca2 cc2 ra2 rc2 s); simpa using this
  have HG : Hid (∃ os, W0 = Sort.grow w os) := ⟨_, by rw [hW0, Sort.alloc_eq_grow, Sort.alloc_eq_grow, Sort.grow_grow]⟩
  rw [← hW0]
  simp only [World.size_alloc]
  have c0 := hb0.cell 2 rfl
  have d0 := hb1.cell 2 rfl
  have z0 := hb0.lt
  have z1 := hb1.lt
  clear hb0 hb1 hW0
  go_wp2_with fail
  refine (cmpi_any r.peer s.peer W0).mono ?_
  rintro e w1 ⟨rfl, rfl⟩
  go_wp2
  go_ret
  exact ⟨rfl, HG.out⟩
end
end Go.Proofs.Ytjlmkaeepeamkaa
