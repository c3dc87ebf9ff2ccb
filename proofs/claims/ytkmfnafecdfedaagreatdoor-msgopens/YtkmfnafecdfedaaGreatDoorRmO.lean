/- The document's body of an OPEN. -/
import Derived.Test.YtkmfnafecdfedaaGreatDoorHRm
import Derived.Test.YtkmfnafecdfedaaGreatDoorCpX
import Derived.Test.YtkmfnafecdfedaaGreatDoorCpY
import Derived.Test.YtkmfnafecdfedaaGreatDoorMgD4
import Derived.Test.YtkmfnafecdfedaaGreatDoorHMx
namespace Go.Proofs.YtkmfnafecdfedaaGreatDoor
open Go.RowKit
set_option maxRecDepth 100000

/-- An OPEN's cells, whatever its hold time. -/
def openZ (a h : Int) (i : Nat) (c : Cp) : Array Value := #[.int .i64 a, .int .i64 h, .int .u32 (i : Int), .bool c.four, .int .i64 c.as4, .bool c.gr, .bool c.rs, .int .i64 c.tm, .bool c.fam, .bool c.fwd, .bool c.ll, .int .i64 c.lt]
theorem OC.z (a h : Int) (i : Nat) (c : Cp) : OC (openZ a h i c) := ⟨rfl, by simp [openZ, Value.oneCell']⟩
/-- The two bytes that stand for an AS. -/
def as2 (a : Int) : Nat := if a ≤ 65535 then a.toNat else 23456
/-- An OPEN's body. -/
def openB (a h : Int) (i : Nat) (c : Cp) : List Nat := [4, as2 a / 256, as2 a % 256, h.toNat / 256, h.toNat % 256] ++ by4 i ++ [(encCp c).length] ++ encCp c
/-- May it be? -/
def openG (a h : Int) (c : Cp) : Bool := decide (1 ≤ a ∧ a ≤ 4294967295) && decide (0 ≤ h ∧ h ≤ 65535) && goodC c
set_option maxHeartbeats 4000000 in
theorem rbody_bad_a (a h : Int) (i : Nat) (c : Cp) (w : World) (h1 : a < 1) :
    Calls Tryz.prog 31 #[.agg (openMsg 1 (openZ a h i c))] w fun e w' => e = .returned (.tuple #[.slice none 0 0, .bool false]) ∧ Below w.heap.size w w' := by
  have hb0 : Below w.heap.size w ((w.alloc (.cells #[.int .i64 1, .int .i64 a, .int .i64 h, .int .u32 (i : Int), .bool c.four, .int .i64 c.as4, .bool c.gr, .bool c.rs, .int .i64 c.tm, .bool c.fam, .bool c.fwd, .bool c.ll, .int .i64 c.lt, .slice none 0 0, .int .i64 0, .slice none 0 0, .int .u32 0, .int .i64 0, .int .i64 0, .slice none 0 0, .slice none 0 0, .slice none 0 0, .int .i64 0, .int .i64 0, .slice none 0 0] 40)).alloc (.cells #[.int .i64 a, .int .i64 h, .int .u32 (i : Int), .bool c.four, .int .i64 c.as4, .bool c.gr, .bool c.rs, .int .i64 c.tm, .bool c.fam, .bool c.fwd, .bool c.ll, .int .i64 c.lt] 28)) := ((Below.refl _ _).alloc (Nat.le_refl _) _).alloc (by simp) _
  have hx0 : ((w.alloc (.cells #[.int .i64 1, .int .i64 a, .int .i64 h, .int .u32 (i : Int), .bool c.four, .int .i64 c.as4, .bool c.gr, .bool c.rs, .int .i64 c.tm, .bool c.fam, .bool c.fwd, .bool c.ll, .int .i64 c.lt, .slice none 0 0, .int .i64 0, .slice none 0 0, .int .u32 0, .int .i64 0, .int .i64 0, .slice none 0 0, .slice none 0 0, .slice none 0 0, .int .i64 0, .int .i64 0, .slice none 0 0] 40)).alloc (.cells #[.int .i64 a, .int .i64 h, .int .u32 (i : Int), .bool c.four, .int .i64 c.as4, .bool c.gr, .bool c.rs, .int .i64 c.tm, .bool c.fam, .bool c.fwd, .bool c.ll, .int .i64 c.lt] 28)).heap[w.heap.size + 1]? = some (.cells #[.int .i64 a, .int .i64 h, .int .u32 (i : Int), .bool c.four, .int .i64 c.as4, .bool c.gr, .bool c.rs, .int .i64 c.tm, .bool c.fam, .bool c.fwd, .bool c.ll, .int .i64 c.lt] 28 (0, 0)) := by
    have h9 := heap_alloc_new (w.alloc (.cells #[.int .i64 1, .int .i64 a, .int .i64 h, .int .u32 (i : Int), .bool c.four, .int .i64 c.as4, .bool c.gr, .bool c.rs, .int .i64 c.tm, .bool c.fam, .bool c.fwd, .bool c.ll, .int .i64 c.lt, .slice none 0 0, .int .i64 0, .slice none 0 0, .int .u32 0, .int .i64 0, .int .i64 0, .slice none 0 0, .slice none 0 0, .slice none 0 0, .int .i64 0, .int .i64 0, .slice none 0 0] 40)) (.cells #[.int .i64 a, .int .i64 h, .int .u32 (i : Int), .bool c.four, .int .i64 c.as4, .bool c.gr, .bool c.rs, .int .i64 c.tm, .bool c.fam, .bool c.fwd, .bool c.ll, .int .i64 c.lt] 28)
    rw [World.size_alloc] at h9
    exact h9
  unfold openMsg openZ
  simp only [List.append_toArray, List.cons_append, List.nil_append]
  clear hx0
  go_enter Tryz.func31, Tryz.ntmps31
  go_wp2
  exact bodyPost_ret (v := .tuple #[.slice none 0 0, .bool false]) (by simp [results, Tryz.results31, go_sem]) rfl ⟨rfl, hb0⟩
set_option maxHeartbeats 4000000 in
theorem rbody_bad_b (a h : Int) (i : Nat) (c : Cp) (w : World) (h1 : 4294967295 < a) :
    Calls Tryz.prog 31 #[.agg (openMsg 1 (openZ a h i c))] w fun e w' => e = .returned (.tuple #[.slice none 0 0, .bool false]) ∧ Below w.heap.size w w' := by
  have d1 : decide (a < 1) = false := decide_eq_false (by omega)
  have hb0 : Below w.heap.size w ((w.alloc (.cells #[.int .i64 1, .int .i64 a, .int .i64 h, .int .u32 (i : Int), .bool c.four, .int .i64 c.as4, .bool c.gr, .bool c.rs, .int .i64 c.tm, .bool c.fam, .bool c.fwd, .bool c.ll, .int .i64 c.lt, .slice none 0 0, .int .i64 0, .slice none 0 0, .int .u32 0, .int .i64 0, .int .i64 0, .slice none 0 0, .slice none 0 0, .slice none 0 0, .int .i64 0, .int .i64 0, .slice none 0 0] 40)).alloc (.cells #[.int .i64 a, .int .i64 h, .int .u32 (i : Int), .bool c.four, .int .i64 c.as4, .bool c.gr, .bool c.rs, .int .i64 c.tm, .bool c.fam, .bool c.fwd, .bool c.ll, .int .i64 c.lt] 28)) := ((Below.refl _ _).alloc (Nat.le_refl _) _).alloc (by simp) _
  have hx0 : ((w.alloc (.cells #[.int .i64 1, .int .i64 a, .int .i64 h, .int .u32 (i : Int), .bool c.four, .int .i64 c.as4, .bool c.gr, .bool c.rs, .int .i64 c.tm, .bool c.fam, .bool c.fwd, .bool c.ll, .int .i64 c.lt, .slice none 0 0, .int .i64 0, .slice none 0 0, .int .u32 0, .int .i64 0, .int .i64 0, .slice none 0 0, .slice none 0 0, .slice none 0 0, .int .i64 0, .int .i64 0, .slice none 0 0] 40)).alloc (.cells #[.int .i64 a, .int .i64 h, .int .u32 (i : Int), .bool c.four, .int .i64 c.as4, .bool c.gr, .bool c.rs, .int .i64 c.tm, .bool c.fam, .bool c.fwd, .bool c.ll, .int .i64 c.lt] 28)).heap[w.heap.size + 1]? = some (.cells #[.int .i64 a, .int .i64 h, .int .u32 (i : Int), .bool c.four, .int .i64 c.as4, .bool c.gr, .bool c.rs, .int .i64 c.tm, .bool c.fam, .bool c.fwd, .bool c.ll, .int .i64 c.lt] 28 (0, 0)) := by
    have h9 := heap_alloc_new (w.alloc (.cells #[.int .i64 1, .int .i64 a, .int .i64 h, .int .u32 (i : Int), .bool c.four, .int .i64 c.as4, .bool c.gr, .bool c.rs, .int .i64 c.tm, .bool c.fam, .bool c.fwd, .bool c.ll, .int .i64 c.lt, .slice none 0 0, .int .i64 0, .slice none 0 0, .int .u32 0, .int .i64 0, .int .i64 0, .slice none 0 0, .slice none 0 0, .slice none 0 0, .int .i64 0, .int .i64 0, .slice none 0 0] 40)) (.cells #[.int .i64 a, .int .i64 h, .int .u32 (i : Int), .bool c.four, .int .i64 c.as4, .bool c.gr, .bool c.rs, .int .i64 c.tm, .bool c.fam, .bool c.fwd, .bool c.ll, .int .i64 c.lt] 28)
    rw [World.size_alloc] at h9
    exact h9
  unfold openMsg openZ
  simp only [List.append_toArray, List.cons_append, List.nil_append]
  clear hx0
  go_enter Tryz.func31, Tryz.ntmps31
  go_wp2
  exact bodyPost_ret (v := .tuple #[.slice none 0 0, .bool false]) (by simp [results, Tryz.results31, go_sem]) rfl ⟨rfl, hb0⟩
set_option maxHeartbeats 4000000 in
theorem rbody_bad_c (a h : Int) (i : Nat) (c : Cp) (w : World) (h0 : 1 ≤ a) (h00 : a ≤ 4294967295) (h1 : h < 0) :
    Calls Tryz.prog 31 #[.agg (openMsg 1 (openZ a h i c))] w fun e w' => e = .returned (.tuple #[.slice none 0 0, .bool false]) ∧ Below w.heap.size w w' := by
  have d1 : decide (a < 1) = false := decide_eq_false (by omega)
  have d2 : decide ((4294967295 : Int) < a) = false := decide_eq_false (by omega)
  have hb0 : Below w.heap.size w ((w.alloc (.cells #[.int .i64 1, .int .i64 a, .int .i64 h, .int .u32 (i : Int), .bool c.four, .int .i64 c.as4, .bool c.gr, .bool c.rs, .int .i64 c.tm, .bool c.fam, .bool c.fwd, .bool c.ll, .int .i64 c.lt, .slice none 0 0, .int .i64 0, .slice none 0 0, .int .u32 0, .int .i64 0, .int .i64 0, .slice none 0 0, .slice none 0 0, .slice none 0 0, .int .i64 0, .int .i64 0, .slice none 0 0] 40)).alloc (.cells #[.int .i64 a, .int .i64 h, .int .u32 (i : Int), .bool c.four, .int .i64 c.as4, .bool c.gr, .bool c.rs, .int .i64 c.tm, .bool c.fam, .bool c.fwd, .bool c.ll, .int .i64 c.lt] 28)) := ((Below.refl _ _).alloc (Nat.le_refl _) _).alloc (by simp) _
  have hx0 : ((w.alloc (.cells #[.int .i64 1, .int .i64 a, .int .i64 h, .int .u32 (i : Int), .bool c.four, .int .i64 c.as4, .bool c.gr, .bool c.rs, .int .i64 c.tm, .bool c.fam, .bool c.fwd, .bool c.ll, .int .i64 c.lt, .slice none 0 0, .int .i64 0, .slice none 0 0, .int .u32 0, .int .i64 0, .int .i64 0, .slice none 0 0, .slice none 0 0, .slice none 0 0, .int .i64 0, .int .i64 0, .slice none 0 0] 40)).alloc (.cells #[.int .i64 a, .int .i64 h, .int .u32 (i : Int), .bool c.four, .int .i64 c.as4, .bool c.gr, .bool c.rs, .int .i64 c.tm, .bool c.fam, .bool c.fwd, .bool c.ll, .int .i64 c.lt] 28)).heap[w.heap.size + 1]? = some (.cells #[.int .i64 a, .int .i64 h, .int .u32 (i : Int), .bool c.four, .int .i64 c.as4, .bool c.gr, .bool c.rs, .int .i64 c.tm, .bool c.fam, .bool c.fwd, .bool c.ll, .int .i64 c.lt] 28 (0, 0)) := by
    have h9 := heap_alloc_new (w.alloc (.cells #[.int .i64 1, .int .i64 a, .int .i64 h, .int .u32 (i : Int), .bool c.four, .int .i64 c.as4, .bool c.gr, .bool c.rs, .int .i64 c.tm, .bool c.fam, .bool c.fwd, .bool c.ll, .int .i64 c.lt, .slice none 0 0, .int .i64 0, .slice none 0 0, .int .u32 0, .int .i64 0, .int .i64 0, .slice none 0 0, .slice none 0 0, .slice none 0 0, .int .i64 0, .int .i64 0, .slice none 0 0] 40)) (.cells #[.int .i64 a, .int .i64 h, .int .u32 (i : Int), .bool c.four, .int .i64 c.as4, .bool c.gr, .bool c.rs, .int .i64 c.tm, .bool c.fam, .bool c.fwd, .bool c.ll, .int .i64 c.lt] 28)
    rw [World.size_alloc] at h9
    exact h9
  unfold openMsg openZ
  simp only [List.append_toArray, List.cons_append, List.nil_append]
  clear hx0
  go_enter Tryz.func31, Tryz.ntmps31
  go_wp2
  exact bodyPost_ret (v := .tuple #[.slice none 0 0, .bool false]) (by simp [results, Tryz.results31, go_sem]) rfl ⟨rfl, hb0⟩
set_option maxHeartbeats 4000000 in
theorem rbody_bad_d (a h : Int) (i : Nat) (c : Cp) (w : World) (h0 : 1 ≤ a) (h00 : a ≤ 4294967295) (h1 : 65535 < h) :
    Calls Tryz.prog 31 #[.agg (openMsg 1 (openZ a h i c))] w fun e w' => e = .returned (.tuple #[.slice none 0 0, .bool false]) ∧ Below w.heap.size w w' := by
  have d1 : decide (a < 1) = false := decide_eq_false (by omega)
  have d2 : decide ((4294967295 : Int) < a) = false := decide_eq_false (by omega)
  have d3 : decide (h < 0) = false := decide_eq_false (by omega)
  have hb0 : Below w.heap.size w ((w.alloc (.cells #[.int .i64 1, .int .i64 a, .int .i64 h, .int .u32 (i : Int), .bool c.four, .int .i64 c.as4, .bool c.gr, .bool c.rs, .int .i64 c.tm, .bool c.fam, .bool c.fwd, .bool c.ll, .int .i64 c.lt, .slice none 0 0, .int .i64 0, .slice none 0 0, .int .u32 0, .int .i64 0, .int .i64 0, .slice none 0 0, .slice none 0 0, .slice none 0 0, .int .i64 0, .int .i64 0, .slice none 0 0] 40)).alloc (.cells #[.int .i64 a, .int .i64 h, .int .u32 (i : Int), .bool c.four, .int .i64 c.as4, .bool c.gr, .bool c.rs, .int .i64 c.tm, .bool c.fam, .bool c.fwd, .bool c.ll, .int .i64 c.lt] 28)) := ((Below.refl _ _).alloc (Nat.le_refl _) _).alloc (by simp) _
  have hx0 : ((w.alloc (.cells #[.int .i64 1, .int .i64 a, .int .i64 h, .int .u32 (i : Int), .bool c.four, .int .i64 c.as4, .bool c.gr, .bool c.rs, .int .i64 c.tm, .bool c.fam, .bool c.fwd, .bool c.ll, .int .i64 c.lt, .slice none 0 0, .int .i64 0, .slice none 0 0, .int .u32 0, .int .i64 0, .int .i64 0, .slice none 0 0, .slice none 0 0, .slice none 0 0, .int .i64 0, .int .i64 0, .slice none 0 0] 40)).alloc (.cells #[.int .i64 a, .int .i64 h, .int .u32 (i : Int), .bool c.four, .int .i64 c.as4, .bool c.gr, .bool c.rs, .int .i64 c.tm, .bool c.fam, .bool c.fwd, .bool c.ll, .int .i64 c.lt] 28)).heap[w.heap.size + 1]? = some (.cells #[.int .i64 a, .int .i64 h, .int .u32 (i : Int), .bool c.four, .int .i64 c.as4, .bool c.gr, .bool c.rs, .int .i64 c.tm, .bool c.fam, .bool c.fwd, .bool c.ll, .int .i64 c.lt] 28 (0, 0)) := by
    have h9 := heap_alloc_new (w.alloc (.cells #[.int .i64 1, .int .i64 a, .int .i64 h, .int .u32 (i : Int), .bool c.four, .int .i64 c.as4, .bool c.gr, .bool c.rs, .int .i64 c.tm, .bool c.fam, .bool c.fwd, .bool c.ll, .int .i64 c.lt, .slice none 0 0, .int .i64 0, .slice none 0 0, .int .u32 0, .int .i64 0, .int .i64 0, .slice none 0 0, .slice none 0 0, .slice none 0 0, .int .i64 0, .int .i64 0, .slice none 0 0] 40)) (.cells #[.int .i64 a, .int .i64 h, .int .u32 (i : Int), .bool c.four, .int .i64 c.as4, .bool c.gr, .bool c.rs, .int .i64 c.tm, .bool c.fam, .bool c.fwd, .bool c.ll, .int .i64 c.lt] 28)
    rw [World.size_alloc] at h9
    exact h9
  unfold openMsg openZ
  simp only [List.append_toArray, List.cons_append, List.nil_append]
  clear hx0
  go_enter Tryz.func31, Tryz.ntmps31
  go_wp2
  exact bodyPost_ret (v := .tuple #[.slice none 0 0, .bool false]) (by simp [results, Tryz.results31, go_sem]) rfl ⟨rfl, hb0⟩
set_option maxHeartbeats 4000000 in
theorem rbody_bad_e (a h : Int) (i : Nat) (c : Cp) (w : World) (h0 : 1 ≤ a) (h00 : a ≤ 4294967295) (h10 : 0 ≤ h) (h11 : h ≤ 65535) (hc : goodC c = false) :
    Calls Tryz.prog 31 #[.agg (openMsg 1 (openZ a h i c))] w fun e w' => e = .returned (.tuple #[.slice none 0 0, .bool false]) ∧ Below w.heap.size w w' := by
  have d1 : decide (a < 1) = false := decide_eq_false (by omega)
  have d2 : decide ((4294967295 : Int) < a) = false := decide_eq_false (by omega)
  have d3 : decide (h < 0) = false := decide_eq_false (by omega)
  have d4 : decide ((65535 : Int) < h) = false := decide_eq_false (by omega)
  have HC := hide hc
  clear hc
  have hb0 : Below w.heap.size w ((w.alloc (.cells #[.int .i64 1, .int .i64 a, .int .i64 h, .int .u32 (i : Int), .bool c.four, .int .i64 c.as4, .bool c.gr, .bool c.rs, .int .i64 c.tm, .bool c.fam, .bool c.fwd, .bool c.ll, .int .i64 c.lt, .slice none 0 0, .int .i64 0, .slice none 0 0, .int .u32 0, .int .i64 0, .int .i64 0, .slice none 0 0, .slice none 0 0, .slice none 0 0, .int .i64 0, .int .i64 0, .slice none 0 0] 40)).alloc (.cells #[.int .i64 a, .int .i64 h, .int .u32 (i : Int), .bool c.four, .int .i64 c.as4, .bool c.gr, .bool c.rs, .int .i64 c.tm, .bool c.fam, .bool c.fwd, .bool c.ll, .int .i64 c.lt] 28)) := ((Below.refl _ _).alloc (Nat.le_refl _) _).alloc (by simp) _
  have hx0 : ((w.alloc (.cells #[.int .i64 1, .int .i64 a, .int .i64 h, .int .u32 (i : Int), .bool c.four, .int .i64 c.as4, .bool c.gr, .bool c.rs, .int .i64 c.tm, .bool c.fam, .bool c.fwd, .bool c.ll, .int .i64 c.lt, .slice none 0 0, .int .i64 0, .slice none 0 0, .int .u32 0, .int .i64 0, .int .i64 0, .slice none 0 0, .slice none 0 0, .slice none 0 0, .int .i64 0, .int .i64 0, .slice none 0 0] 40)).alloc (.cells #[.int .i64 a, .int .i64 h, .int .u32 (i : Int), .bool c.four, .int .i64 c.as4, .bool c.gr, .bool c.rs, .int .i64 c.tm, .bool c.fam, .bool c.fwd, .bool c.ll, .int .i64 c.lt] 28)).heap[w.heap.size + 1]? = some (.cells #[.int .i64 a, .int .i64 h, .int .u32 (i : Int), .bool c.four, .int .i64 c.as4, .bool c.gr, .bool c.rs, .int .i64 c.tm, .bool c.fam, .bool c.fwd, .bool c.ll, .int .i64 c.lt] 28 (0, 0)) := by
    have h9 := heap_alloc_new (w.alloc (.cells #[.int .i64 1, .int .i64 a, .int .i64 h, .int .u32 (i : Int), .bool c.four, .int .i64 c.as4, .bool c.gr, .bool c.rs, .int .i64 c.tm, .bool c.fam, .bool c.fwd, .bool c.ll, .int .i64 c.lt, .slice none 0 0, .int .i64 0, .slice none 0 0, .int .u32 0, .int .i64 0, .int .i64 0, .slice none 0 0, .slice none 0 0, .slice none 0 0, .int .i64 0, .int .i64 0, .slice none 0 0] 40)) (.cells #[.int .i64 a, .int .i64 h, .int .u32 (i : Int), .bool c.four, .int .i64 c.as4, .bool c.gr, .bool c.rs, .int .i64 c.tm, .bool c.fam, .bool c.fwd, .bool c.ll, .int .i64 c.lt] 28)
    rw [World.size_alloc] at h9
    exact h9
  unfold openMsg openZ
  simp only [List.append_toArray, List.cons_append, List.nil_append]
  have HB0 := hide hb0
  clear hx0 hb0
  go_enter Tryz.func31, Tryz.ntmps31
  go_wp2_with fail
  generalize ((w.alloc (.cells #[.int .i64 1, .int .i64 a, .int .i64 h, .int .u32 (i : Int), .bool c.four, .int .i64 c.as4, .bool c.gr, .bool c.rs, .int .i64 c.tm, .bool c.fam, .bool c.fwd, .bool c.ll, .int .i64 c.lt, .slice none 0 0, .int .i64 0, .slice none 0 0, .int .u32 0, .int .i64 0, .int .i64 0, .slice none 0 0, .slice none 0 0, .slice none 0 0, .int .i64 0, .int .i64 0, .slice none 0 0] 40)).alloc (.cells #[.int .i64 a, .int .i64 h, .int .u32 (i : Int), .bool c.four, .int .i64 c.as4, .bool c.gr, .bool c.rs, .int .i64 c.tm, .bool c.fam, .bool c.fwd, .bool c.ll, .int .i64 c.lt] 28)) = w0 at *
  refine (rgoodc_any c w0).mono ?_
  rw [HC.out]
  rintro e w1 ⟨rfl, hb1⟩
  have HB1 := hide (HB0.out.trans (hb1.mono HB0.out.size))
  clear hb1
  go_wp2
  exact bodyPost_ret (v := .tuple #[.slice none 0 0, .bool false]) (by simp [results, Tryz.results31, go_sem]) rfl ⟨rfl, HB1.out⟩
theorem rbody_bad (a h : Int) (i : Nat) (c : Cp) (w : World) (hg : openG a h c = false) :
    Calls Tryz.prog 31 #[.agg (openMsg 1 (openZ a h i c))] w fun e w' => e = .returned (.tuple #[.slice none 0 0, .bool false]) ∧ Below w.heap.size w w' := by
  by_cases h1 : a < 1
  · exact rbody_bad_a a h i c w h1
  · by_cases h2 : 4294967295 < a
    · exact rbody_bad_b a h i c w h2
    · by_cases h3 : h < 0
      · exact rbody_bad_c a h i c w (by omega) (by omega) h3
      · by_cases h4 : 65535 < h
        · exact rbody_bad_d a h i c w (by omega) (by omega) h4
        · refine rbody_bad_e a h i c w (by omega) (by omega) (by omega) (by omega) ?_
          unfold openG at hg
          rw [decide_eq_true (by omega), decide_eq_true (by omega)] at hg
          simpa using hg
theorem own_byte1 (w : World) (B x : Nat) (hB : B ≤ w.heap.size) : (w.alloc (.cells #[.int .u8 (x : Int)] 5)).ownsRow B 5 1 (.slice (some ⟨w.heap.size, 0, none⟩) 1 1) [x].length (bcells [x]) :=
  ⟨rfl, .inr ⟨w.heap.size, 1, #[.int .u8 (x : Int)], rfl, hB, by unfold World.alloc; exact Array.getElem?_push_size, Nat.le_refl _, by unfold maxLen; omega, rfl, rfl⟩⟩
theorem brd_lits (w : World) (bs : List Nat) (hl : bs.length ≤ 1000) (hb : ∀ x ∈ bs, x < 256) : BRd (w.alloc (.cells (bcells bs).toArray 5)) (some ⟨w.heap.size, 0, none⟩) bs := by
  have ho : (w.alloc (.cells (bcells bs).toArray 5)).ownsRow w.heap.size 5 1 (.slice (some ⟨w.heap.size, 0, none⟩) bs.length bs.length) bs.length (bcells bs) :=
    ⟨by simp [bcells], .inr ⟨w.heap.size, bs.length, _, rfl, Nat.le_refl _, by unfold World.alloc; exact Array.getElem?_push_size, Nat.le_refl _, by unfold maxLen; omega, by simp [bcells], by rw [List.take_of_length_le (by simp [bcells])]⟩⟩
  obtain ⟨a, c, e, _, h⟩ := own_brd ho (by omega) hb
  injection e with e _ _
  subst e
  exact h
section
attribute [local go_sem ↓] kept_append
set_option maxHeartbeats 12800000 in
theorem rbody_good_two (a h : Nat) (i : Nat) (c : Cp) (w : World) (h0 : 1 ≤ a) (h00 : a ≤ 4294967295) (h11 : h ≤ 65535) (h65 : a ≤ 65535) (hc : goodC c = true) (hi : i < 4294967296) :
    Calls Tryz.prog 31 #[.agg (openMsg 1 (openZ (a : Int) (h : Int) i c))] w fun e w' => ∃ v, e = .returned (.tuple #[v, .bool true]) ∧ w'.ownsRow w.heap.size 5 1 v (openB (a : Int) (h : Int) i c).length (bcells (openB (a : Int) (h : Int) i c)) ∧ Below w.heap.size w w' := by
  have d1 : decide ((a : Int) < 1) = false := decide_eq_false (by omega)
  have d2 : decide ((4294967295 : Int) < (a : Int)) = false := decide_eq_false (by omega)
  have d3 : decide ((h : Int) < 0) = false := decide_eq_false (by omega)
  have d4 : decide ((65535 : Int) < (h : Int)) = false := decide_eq_false (by omega)
  have HC := hide hc
  have HA : Hid (as2 (a : Int) = a) := by show as2 _ = _; unfold as2; rw [if_pos (by omega), Int.toNat_natCast]
  have HE : Hid (openB (a : Int) (h : Int) i c = [4, a / 256, a % 256, h / 256, h % 256] ++ by4 i ++ [(encCp c).length] ++ encCp c) := by show openB _ _ _ _ = _; unfold openB; rw [HA.out, Int.toNat_natCast]
  have hn16 : a < 65536 := by omega
  generalize openB (a : Int) (h : Int) i c = ob at *
  obtain ⟨nob, hnob⟩ : ∃ nob, ob.length = nob := ⟨_, rfl⟩
  rw [hnob]
  have HNOB := hide hnob
  clear hnob
  clear hc HA
  have d5 : decide ((65535 : Int) < (a : Int)) = false := decide_eq_false (by omega)
  have hb0 : Below w.heap.size w ((w.alloc (.cells #[.int .i64 1, .int .i64 (a : Int), .int .i64 (h : Int), .int .u32 (i : Int), .bool c.four, .int .i64 c.as4, .bool c.gr, .bool c.rs, .int .i64 c.tm, .bool c.fam, .bool c.fwd, .bool c.ll, .int .i64 c.lt, .slice none 0 0, .int .i64 0, .slice none 0 0, .int .u32 0, .int .i64 0, .int .i64 0, .slice none 0 0, .slice none 0 0, .slice none 0 0, .int .i64 0, .int .i64 0, .slice none 0 0] 40)).alloc (.cells #[.int .i64 (a : Int), .int .i64 (h : Int), .int .u32 (i : Int), .bool c.four, .int .i64 c.as4, .bool c.gr, .bool c.rs, .int .i64 c.tm, .bool c.fam, .bool c.fwd, .bool c.ll, .int .i64 c.lt] 28)) := ((Below.refl _ _).alloc (Nat.le_refl _) _).alloc (by simp) _
  have hx0 : ((w.alloc (.cells #[.int .i64 1, .int .i64 (a : Int), .int .i64 (h : Int), .int .u32 (i : Int), .bool c.four, .int .i64 c.as4, .bool c.gr, .bool c.rs, .int .i64 c.tm, .bool c.fam, .bool c.fwd, .bool c.ll, .int .i64 c.lt, .slice none 0 0, .int .i64 0, .slice none 0 0, .int .u32 0, .int .i64 0, .int .i64 0, .slice none 0 0, .slice none 0 0, .slice none 0 0, .int .i64 0, .int .i64 0, .slice none 0 0] 40)).alloc (.cells #[.int .i64 (a : Int), .int .i64 (h : Int), .int .u32 (i : Int), .bool c.four, .int .i64 c.as4, .bool c.gr, .bool c.rs, .int .i64 c.tm, .bool c.fam, .bool c.fwd, .bool c.ll, .int .i64 c.lt] 28)).heap[w.heap.size + 1]? = some (.cells #[.int .i64 (a : Int), .int .i64 (h : Int), .int .u32 (i : Int), .bool c.four, .int .i64 c.as4, .bool c.gr, .bool c.rs, .int .i64 c.tm, .bool c.fam, .bool c.fwd, .bool c.ll, .int .i64 c.lt] 28 (0, 0)) := by
    have h9 := heap_alloc_new (w.alloc (.cells #[.int .i64 1, .int .i64 (a : Int), .int .i64 (h : Int), .int .u32 (i : Int), .bool c.four, .int .i64 c.as4, .bool c.gr, .bool c.rs, .int .i64 c.tm, .bool c.fam, .bool c.fwd, .bool c.ll, .int .i64 c.lt, .slice none 0 0, .int .i64 0, .slice none 0 0, .int .u32 0, .int .i64 0, .int .i64 0, .slice none 0 0, .slice none 0 0, .slice none 0 0, .int .i64 0, .int .i64 0, .slice none 0 0] 40)) (.cells #[.int .i64 (a : Int), .int .i64 (h : Int), .int .u32 (i : Int), .bool c.four, .int .i64 c.as4, .bool c.gr, .bool c.rs, .int .i64 c.tm, .bool c.fam, .bool c.fwd, .bool c.ll, .int .i64 c.lt] 28)
    rw [World.size_alloc] at h9
    exact h9
  unfold openMsg openZ
  simp only [List.append_toArray, List.cons_append, List.nil_append]
  have HB0 := hide hb0
  have HX0 := hide hx0
  have hs0 : w.heap.size + 2 ≤ (((w.alloc (.cells #[.int .i64 1, .int .i64 (a : Int), .int .i64 (h : Int), .int .u32 (i : Int), .bool c.four, .int .i64 c.as4, .bool c.gr, .bool c.rs, .int .i64 c.tm, .bool c.fam, .bool c.fwd, .bool c.ll, .int .i64 c.lt, .slice none 0 0, .int .i64 0, .slice none 0 0, .int .u32 0, .int .i64 0, .int .i64 0, .slice none 0 0, .slice none 0 0, .slice none 0 0, .int .i64 0, .int .i64 0, .slice none 0 0] 40)).alloc (.cells #[.int .i64 (a : Int), .int .i64 (h : Int), .int .u32 (i : Int), .bool c.four, .int .i64 c.as4, .bool c.gr, .bool c.rs, .int .i64 c.tm, .bool c.fam, .bool c.fwd, .bool c.ll, .int .i64 c.lt] 28))).heap.size := by simp
  clear hb0 hx0
  go_enter Tryz.func31, Tryz.ntmps31
  go_wp2_with fail
  generalize ((w.alloc (.cells #[.int .i64 1, .int .i64 (a : Int), .int .i64 (h : Int), .int .u32 (i : Int), .bool c.four, .int .i64 c.as4, .bool c.gr, .bool c.rs, .int .i64 c.tm, .bool c.fam, .bool c.fwd, .bool c.ll, .int .i64 c.lt, .slice none 0 0, .int .i64 0, .slice none 0 0, .int .u32 0, .int .i64 0, .int .i64 0, .slice none 0 0, .slice none 0 0, .slice none 0 0, .int .i64 0, .int .i64 0, .slice none 0 0] 40)).alloc (.cells #[.int .i64 (a : Int), .int .i64 (h : Int), .int .u32 (i : Int), .bool c.four, .int .i64 c.as4, .bool c.gr, .bool c.rs, .int .i64 c.tm, .bool c.fam, .bool c.fwd, .bool c.ll, .int .i64 c.lt] 28)) = w0 at *
  refine (rgoodc_any c w0).mono ?_
  rw [HC.out]
  rintro e w1 ⟨rfl, hb1⟩
  have HB1 := hide (HB0.out.trans (hb1.mono HB0.out.size))
  have HX1 : Hid (w1.heap[w.heap.size + 1]? = some (.cells #[.int .i64 (a : Int), .int .i64 (h : Int), .int .u32 (i : Int), .bool c.four, .int .i64 c.as4, .bool c.gr, .bool c.rs, .int .i64 c.tm, .bool c.fam, .bool c.fwd, .bool c.ll, .int .i64 c.lt] 28 (0, 0))) := by show _ = _; rw [hb1.block _ (by omega)]; exact HX0.out
  have hs1 : w.heap.size + 2 ≤ w1.heap.size := by have := hb1.size; omega
  clear hb1 HB0 HX0 hs0 HC
  have HCL : Hid (∀ W, Below w1.heap.size w1 W → ∀ j v, (#[.int .i64 (a : Int), .int .i64 (h : Int), .int .u32 (i : Int), .bool c.four, .int .i64 c.as4, .bool c.gr, .bool c.rs, .int .i64 c.tm, .bool c.fam, .bool c.fwd, .bool c.ll, .int .i64 c.lt] : Array Value)[j]? = some v → W.cell? ⟨w.heap.size + 1, j, none⟩ = some v) := fun W hW j v hv => by
    have hx : W.heap[w.heap.size + 1]? = some (.cells #[.int .i64 (a : Int), .int .i64 (h : Int), .int .u32 (i : Int), .bool c.four, .int .i64 c.as4, .bool c.gr, .bool c.rs, .int .i64 c.tm, .bool c.fam, .bool c.fwd, .bool c.ll, .int .i64 c.lt] 28 (0, 0)) := by rw [hW.block _ (by omega)]; exact HX1.out
    have := range_of hx j v (by rw [Array.getElem?_toList]; exact hv)
    simpa using this
  have c0 : w1.cell? ⟨w.heap.size + 1, 0, none⟩ = some (.int .i64 (a : Int)) := HCL.out w1 (Below.refl _ _) 0 _ rfl
  have z1 : w.heap.size + 1 < w1.heap.size := by omega
  go_wp2_with fail
  clear c0 z1
  have kc : ∀ W, Below w1.heap.size w1 W → W.cell? ⟨w.heap.size + 1, 1, none⟩ = some (.int .i64 (h : Int)) := fun W hW => HCL.out W hW 1 _ rfl
  refine region_pre2 (fun W => Below w1.heap.size w1 W) [1, 4, 5] 6 #[false, true, false, false, true, true, false, false, false] (by kernel_rfl) (by kernel_rfl) (by rfl) (by kernel_rfl) (by rfl) (Below.refl _ _).drew ?_
  repeat refine pre_q (by rfl) (by rfl) (fun w9 h9 => (by have s0 := kc w9 h9; clear h9; go_simp; first | done | rfl)) (by go_simp; first | done | rfl) ?_
  show wpAnyH _ _ _ _ _ _ _ _ _
  have al : ∀ (w : World) (o : Obj), Below w.heap.size w (w.alloc o) := fun w o => (Below.refl _ _).alloc (Nat.le_refl _) _
  -- both orders end alike
  have tl : Hid (∀ (W2 : World) (G H : Nat), Below w1.heap.size w1 W2 → W2.ownsRow w1.heap.size 5 1 (.slice (some ⟨G, 0, none⟩) 1 1) [4].length (bcells [4]) → BRd W2 (some ⟨H, 0, none⟩) [a / 256, a % 256] →
      ∃ v3 w3 v4 w4 a4 c4, (Builtin.append_ #[22, 22] 22 #[.slice (some ⟨G, 0, none⟩) 1 1, .slice (some ⟨H, 0, none⟩) 2 2]).run Tryz.prog W2 = .ok v3 w3 ∧ Below w1.heap.size w1 w3 ∧ (Builtin.append_ #[22, 22] 22 #[v3, .slice (some ⟨w3.heap.size, 0, none⟩) 2 2]).run Tryz.prog (w3.alloc (.cells #[.int .u8 ((h : Int) / 256), .int .u8 ((h : Int) % 256)] 5)) = .ok v4 w4 ∧ v4 = .slice a4 5 c4 ∧ w4.ownsRow w1.heap.size 5 1 (.slice a4 5 c4) [4, a / 256, a % 256, h / 256, h % 256].length (bcells [4, a / 256, a % 256, h / 256, h % 256]) ∧ Below w1.heap.size w1 w4) := fun W2 G H hb2 ho2 hd2 => by
    obtain ⟨v3, w3, r3, o3, g3, _⟩ := app_grow [a / 256, a % 256] (some ⟨H, 0, none⟩) 2 ho2 hb2.size (by simp) hd2
    have b3 := hb2.trans (grown_below ho2 hb2.size g3)
    obtain ⟨v4, w4, r4, o4, g4, _⟩ := app_grow [h / 256, h % 256] (some ⟨w3.heap.size, 0, none⟩) 2 (o3.alloc _) (by have := b3.size; simp; omega) (by simp) (brd_two w3 h (by omega))
    have b4 : Below w1.heap.size w1 w4 := (b3.alloc b3.size _).trans (grown_below (o3.alloc _) (by have := b3.size; simp; omega) g4)
    obtain ⟨a4, c4, e4⟩ := own_shape o4
    subst e4
    exact ⟨v3, w3, _, w4, a4, c4, r3, b3, r4, rfl, o4, b4⟩
  have FIN : Hid (∀ (w4 : World) (a4 : Option Addr) (c4 : Nat), Below w1.heap.size w1 w4 → w4.ownsRow w1.heap.size 5 1 (.slice a4 5 c4) [4, a / 256, a % 256, h / 256, h % 256].length (bcells [4, a / 256, a % 256, h / 256, h % 256]) → True) := fun _ _ _ _ _ => trivial
  clear FIN
  refine wpAnyH_all (show Region.ready .any _ _ = [0, 2] from by kernel_rfl) (by simp) fun i9 hi9 => ?_
  have hi2 : i9 = 0 ∨ i9 = 2 := by simpa using hi9
  rcases hi2 with rfl | rfl
  · refine op_plain (by rfl) rfl ?_
    go_simp
    refine ⟨(Below.refl _ _).drew.alloc (Nat.le_refl _) _, ?_⟩
    refine wpAnyH_all (show Region.ready .any _ _ = [2] from by kernel_rfl) (by simp) fun i9 hi9 => ?_
    obtain rfl : i9 = 2 := by simpa using hi9
    refine op_plain (by rfl) rfl ?_
    go_simp
    refine (two_any a _ hn16).mono ?_
    rintro e W2 ⟨rfl, rfl⟩
    have B2 : Below w1.heap.size w1 ((w1.drew.alloc (.cells #[.int .u8 4] 5)).alloc (.cells #[.int .u8 ((a : Int) / 256), .int .u8 ((a : Int) % 256)] 5)) := ((Below.refl _ _).drew.alloc (Nat.le_refl _) _).alloc (by simp) _
    have O2 := (own_byte1 w1.drew w1.heap.size 4 (Nat.le_refl _)).alloc (.cells #[.int .u8 ((a : Int) / 256), .int .u8 ((a : Int) % 256)] 5)
    have D2 := brd_two (w1.drew.alloc (.cells #[.int .u8 4] 5)) a hn16
    refine ⟨B2, ?_⟩
    obtain ⟨v3, w3, v4, w4, a4, c4, r3, b3, r4, rfl, o4, b4⟩ := tl.out _ _ _ B2 O2 D2
    refine anyH_ord (L := fun k => k == 3 || k == 6 || k == 7) (by kernel_rfl) (fun c a a' w h => absurd rfl (h.1 c)) [3, 6, 7, 8] _ _ _ (by kernel_rfl) B2 ?_
    refine ord_l (by rfl) (by rfl) (by rfl) ?_
    refine opwp_app _ _ _ _ _ (by rfl) (by rfl) r3 ?_
    refine ⟨b3, ?_⟩
    refine ord_l (by rfl) (by rfl) (by rfl) ?_
    go_simp
    refine (two_any h w3 (by omega)).mono ?_
    rintro e w9 ⟨rfl, rfl⟩
    refine ⟨b3.alloc b3.size _, ?_⟩
    refine ord_l (by rfl) (by rfl) (by rfl) ?_
    refine opwp_app _ _ _ _ _ (by rfl) (by rfl) r4 ?_
    refine ⟨b4, ?_⟩
    repeat refine ord_q (by rfl) (by rfl) (by rfl) (fun w9 h9 => (by go_simp; first | done | rfl)) (by go_simp; first | done | rfl) ?_
    refine ⟨fun _ h => (by cases h), ?_⟩
    have HO4 := hide o4
    have HB4 := hide b4
    clear r3 b3 r4 o4 b4 tl kc
    have c2 : w4.cell? ⟨w.heap.size + 1, 2, none⟩ = some (.int .u32 (i : Int)) := HCL.out w4 HB4.out 2 _ rfl
    have z4 : w.heap.size + 1 < w4.heap.size := by have := HB4.out.size; omega
    have ei : IntKind.i64.wrap (i : Int) = (i : Int) := by rw [IntKind.wrap_i64]; omega
    go_wp2_with fail
    refine (four_eq i w4 hi).mono ?_
    rintro e w5 ⟨rfl, rfl⟩
    clear c2 z4
    obtain ⟨v6, w6, r6, o6, g6, _⟩ := app_grow (by4 i) (some ⟨w4.heap.size, 0, none⟩) 4 (HO4.out.alloc (.cells (bcells ((List.range 4).map (byteAt i))).toArray 5)) (by have := HB4.out.size; simp; omega) (by simp [by4]) (brd_lits w4 (by4 i) (by simp [by4]) (by4_lt i))
    have b6 : Below w1.heap.size w1 w6 := (HB4.out.alloc HB4.out.size _).trans (grown_below (HO4.out.alloc _) (by have := HB4.out.size; simp; omega) g6)
    obtain ⟨a6, c6, e6⟩ := own_shape o6
    subst e6
    obtain ⟨n6, hn6⟩ : ∃ n6, n6 = ([4, a / 256, a % 256, h / 256, h % 256] ++ by4 i).length := ⟨_, rfl⟩
    rw [← hn6] at r6
    have HR6 := hide r6
    have HO6 := hide o6
    have HB6 := hide b6
    have HN6 := hide hn6
    clear r6 o6 b6 g6 hn6
    go_wp2_with fail
    refine kept_append_intro _ _ _ _ _ (w' := w6) (by rfl) (by rfl) (by exact HR6.out) ?_
    clear HR6 HO4 HB4
    have k3 : w6.cell? ⟨w.heap.size + 1, 3, none⟩ = some (.bool c.four) := HCL.out w6 HB6.out 3 _ rfl
    have k4 : w6.cell? ⟨w.heap.size + 1, 4, none⟩ = some (.int .i64 c.as4) := HCL.out w6 HB6.out 4 _ rfl
    have k5 : w6.cell? ⟨w.heap.size + 1, 5, none⟩ = some (.bool c.gr) := HCL.out w6 HB6.out 5 _ rfl
    have k6 : w6.cell? ⟨w.heap.size + 1, 6, none⟩ = some (.bool c.rs) := HCL.out w6 HB6.out 6 _ rfl
    have k7 : w6.cell? ⟨w.heap.size + 1, 7, none⟩ = some (.int .i64 c.tm) := HCL.out w6 HB6.out 7 _ rfl
    have k8 : w6.cell? ⟨w.heap.size + 1, 8, none⟩ = some (.bool c.fam) := HCL.out w6 HB6.out 8 _ rfl
    have k9 : w6.cell? ⟨w.heap.size + 1, 9, none⟩ = some (.bool c.fwd) := HCL.out w6 HB6.out 9 _ rfl
    have k10 : w6.cell? ⟨w.heap.size + 1, 10, none⟩ = some (.bool c.ll) := HCL.out w6 HB6.out 10 _ rfl
    have k11 : w6.cell? ⟨w.heap.size + 1, 11, none⟩ = some (.int .i64 c.lt) := HCL.out w6 HB6.out 11 _ rfl
    have z6 : w.heap.size + 1 < w6.heap.size := by have := HB6.out.size; omega
    go_wp2_with fail
    refine (rcaps_any c w6).mono ?_
    rintro e w7 ⟨v7, rfl, ho7, hb7⟩
    clear k3 k4 k5 k6 k7 k8 k9 k10 k11 z6 HCL
    have hcl := encCp_length c
    obtain ⟨a7, c7, rfl⟩ := own_shape ho7
    have HB7 : Hid (Below w1.heap.size w1 w7) := HB6.out.trans (hb7.mono HB6.out.size)
    have HO7 := hide (own_later HO6.out hb7)
    have hb67 := hb7.size
    obtain ⟨n7, hn7⟩ : ∃ n7, n7 = (encCp c).length := ⟨_, rfl⟩
    obtain ⟨v8, w8, r8, o8, g8, _⟩ := app_grow [n7] (some ⟨w7.heap.size, 0, none⟩) 1 (HO7.out.alloc (.cells #[.int .u8 ((n7 : Nat) : Int)] 5)) (by have := HB7.out.size; simp; omega) (by simp [by4]) (brd_one w7 n7 (by omega))
    have b8 : Below w1.heap.size w1 w8 := (HB7.out.alloc HB7.out.size _).trans (grown_below (HO7.out.alloc _) (by have := HB7.out.size; simp; omega) g8)
    have o8c := own_grown (ho7.alloc (.cells #[.int .u8 ((n7 : Nat) : Int)] 5)) g8 (fun b hb e => by
      have h1 := (own_block HO6.out b (by exact e)).2
      have h2 := (own_block ho7 b hb).1
      omega)
    obtain ⟨a7', c7', e7', _, d8⟩ := own_brd o8c (by omega) (encCp_lt c)
    injection e7' with q1 _ q3
    subst q1 q3
    obtain ⟨a8, c8, e8⟩ := own_shape o8
    subst e8
    obtain ⟨v9, w9, r9, o9, g9, _⟩ := app_grow (encCp c) a7 c7 o8 b8.size (by simp [by4]; omega) d8
    have b9 : Below w1.heap.size w1 w9 := b8.trans (grown_below o8 b8.size g9)
    obtain ⟨a9, c9, e9⟩ := own_shape o9
    subst e9
    have HE9 : Hid ([4, a / 256, a % 256, h / 256, h % 256] ++ by4 i ++ [n7] ++ encCp c = ob) := by show _ = _; rw [HE.out, hn7]
    rw [HE9.out, HNOB.out] at o9
    rw [HE9.out, HNOB.out] at r9
    have HO9 := hide (own_low (B' := w.heap.size) o9 (by omega))
    have HB9 := hide (HB1.out.trans (b9.mono (by omega)))
    rw [← HN6.out] at r8
    rw [← hn7] at r9
    obtain ⟨n8, hn8⟩ : ∃ n8, n8 = ([4, a / 256, a % 256, h / 256, h % 256] ++ by4 i ++ [n7]).length := ⟨_, rfl⟩
    rw [← hn8] at r8 r9
    have HR8 := hide r8
    have HR9 := hide r9
    have el : IntKind.u8.wrap (n7 : Int) = (n7 : Int) := by rw [IntKind.wrap_u8]; omega
    rw [← hn7]
    clear r8 r9 o8 o9 g8 g9 b8 b9 o8c d8 ho7 hb7 HO6 HO7 HB6 hn7 hn8 hcl hb67 HE9
    go_wp2_with fail
    refine kept_append_intro _ _ _ _ _ (w' := w8) (by rfl) (by rfl) (by exact HR8.out) ?_
    go_wp2_with fail
    refine kept_append_intro _ _ _ _ _ (w' := w9) (by rfl) (by rfl) (by exact HR9.out) ?_
    clear HR8 HR9
    go_wp2
    exact bodyPost_ret (v := .tuple #[.slice a9 nob c9, .bool true]) (by simp [results, Tryz.results31, go_sem]) rfl ⟨_, rfl, HO9.out, HB9.out⟩
  · refine op_plain (by rfl) rfl ?_
    go_simp
    refine (two_any a _ hn16).mono ?_
    rintro e W2 ⟨rfl, rfl⟩
    refine ⟨(Below.refl _ _).drew.alloc (Nat.le_refl _) _, ?_⟩
    refine wpAnyH_all (show Region.ready .any _ _ = [0] from by kernel_rfl) (by simp) fun i9 hi9 => ?_
    obtain rfl : i9 = 0 := by simpa using hi9
    refine op_plain (by rfl) rfl ?_
    go_simp
    have B2 : Below w1.heap.size w1 ((w1.drew.alloc (.cells #[.int .u8 ((a : Int) / 256), .int .u8 ((a : Int) % 256)] 5)).alloc (.cells #[.int .u8 4] 5)) := ((Below.refl _ _).drew.alloc (Nat.le_refl _) _).alloc (by simp) _
    have O2 := own_byte1 (w1.drew.alloc (.cells #[.int .u8 ((a : Int) / 256), .int .u8 ((a : Int) % 256)] 5)) w1.heap.size 4 (by simp)
    rw [show (w1.drew.alloc (.cells #[.int .u8 ((a : Int) / 256), .int .u8 ((a : Int) % 256)] 5)).heap.size = w1.heap.size + 1 from by simp] at O2
    have D2 := (brd_two w1.drew a hn16).below (al _ (.cells #[.int .u8 4] 5))
    refine ⟨B2, ?_⟩
    obtain ⟨v3, w3, v4, w4, a4, c4, r3, b3, r4, rfl, o4, b4⟩ := tl.out _ _ _ B2 O2 D2
    refine anyH_ord (L := fun k => k == 3 || k == 6 || k == 7) (by kernel_rfl) (fun c a a' w h => absurd rfl (h.1 c)) [3, 6, 7, 8] _ _ _ (by kernel_rfl) B2 ?_
    refine ord_l (by rfl) (by rfl) (by rfl) ?_
    refine opwp_app _ _ _ _ _ (by rfl) (by rfl) r3 ?_
    refine ⟨b3, ?_⟩
    refine ord_l (by rfl) (by rfl) (by rfl) ?_
    go_simp
    refine (two_any h w3 (by omega)).mono ?_
    rintro e w9 ⟨rfl, rfl⟩
    refine ⟨b3.alloc b3.size _, ?_⟩
    refine ord_l (by rfl) (by rfl) (by rfl) ?_
    refine opwp_app _ _ _ _ _ (by rfl) (by rfl) r4 ?_
    refine ⟨b4, ?_⟩
    repeat refine ord_q (by rfl) (by rfl) (by rfl) (fun w9 h9 => (by go_simp; first | done | rfl)) (by go_simp; first | done | rfl) ?_
    refine ⟨fun _ h => (by cases h), ?_⟩
    have HO4 := hide o4
    have HB4 := hide b4
    clear r3 b3 r4 o4 b4 tl kc
    have c2 : w4.cell? ⟨w.heap.size + 1, 2, none⟩ = some (.int .u32 (i : Int)) := HCL.out w4 HB4.out 2 _ rfl
    have z4 : w.heap.size + 1 < w4.heap.size := by have := HB4.out.size; omega
    have ei : IntKind.i64.wrap (i : Int) = (i : Int) := by rw [IntKind.wrap_i64]; omega
    go_wp2_with fail
    refine (four_eq i w4 hi).mono ?_
    rintro e w5 ⟨rfl, rfl⟩
    clear c2 z4
    obtain ⟨v6, w6, r6, o6, g6, _⟩ := app_grow (by4 i) (some ⟨w4.heap.size, 0, none⟩) 4 (HO4.out.alloc (.cells (bcells ((List.range 4).map (byteAt i))).toArray 5)) (by have := HB4.out.size; simp; omega) (by simp [by4]) (brd_lits w4 (by4 i) (by simp [by4]) (by4_lt i))
    have b6 : Below w1.heap.size w1 w6 := (HB4.out.alloc HB4.out.size _).trans (grown_below (HO4.out.alloc _) (by have := HB4.out.size; simp; omega) g6)
    obtain ⟨a6, c6, e6⟩ := own_shape o6
    subst e6
    obtain ⟨n6, hn6⟩ : ∃ n6, n6 = ([4, a / 256, a % 256, h / 256, h % 256] ++ by4 i).length := ⟨_, rfl⟩
    rw [← hn6] at r6
    have HR6 := hide r6
    have HO6 := hide o6
    have HB6 := hide b6
    have HN6 := hide hn6
    clear r6 o6 b6 g6 hn6
    go_wp2_with fail
    refine kept_append_intro _ _ _ _ _ (w' := w6) (by rfl) (by rfl) (by exact HR6.out) ?_
    clear HR6 HO4 HB4
    have k3 : w6.cell? ⟨w.heap.size + 1, 3, none⟩ = some (.bool c.four) := HCL.out w6 HB6.out 3 _ rfl
    have k4 : w6.cell? ⟨w.heap.size + 1, 4, none⟩ = some (.int .i64 c.as4) := HCL.out w6 HB6.out 4 _ rfl
    have k5 : w6.cell? ⟨w.heap.size + 1, 5, none⟩ = some (.bool c.gr) := HCL.out w6 HB6.out 5 _ rfl
    have k6 : w6.cell? ⟨w.heap.size + 1, 6, none⟩ = some (.bool c.rs) := HCL.out w6 HB6.out 6 _ rfl
    have k7 : w6.cell? ⟨w.heap.size + 1, 7, none⟩ = some (.int .i64 c.tm) := HCL.out w6 HB6.out 7 _ rfl
    have k8 : w6.cell? ⟨w.heap.size + 1, 8, none⟩ = some (.bool c.fam) := HCL.out w6 HB6.out 8 _ rfl
    have k9 : w6.cell? ⟨w.heap.size + 1, 9, none⟩ = some (.bool c.fwd) := HCL.out w6 HB6.out 9 _ rfl
    have k10 : w6.cell? ⟨w.heap.size + 1, 10, none⟩ = some (.bool c.ll) := HCL.out w6 HB6.out 10 _ rfl
    have k11 : w6.cell? ⟨w.heap.size + 1, 11, none⟩ = some (.int .i64 c.lt) := HCL.out w6 HB6.out 11 _ rfl
    have z6 : w.heap.size + 1 < w6.heap.size := by have := HB6.out.size; omega
    go_wp2_with fail
    refine (rcaps_any c w6).mono ?_
    rintro e w7 ⟨v7, rfl, ho7, hb7⟩
    clear k3 k4 k5 k6 k7 k8 k9 k10 k11 z6 HCL
    have hcl := encCp_length c
    obtain ⟨a7, c7, rfl⟩ := own_shape ho7
    have HB7 : Hid (Below w1.heap.size w1 w7) := HB6.out.trans (hb7.mono HB6.out.size)
    have HO7 := hide (own_later HO6.out hb7)
    have hb67 := hb7.size
    obtain ⟨n7, hn7⟩ : ∃ n7, n7 = (encCp c).length := ⟨_, rfl⟩
    obtain ⟨v8, w8, r8, o8, g8, _⟩ := app_grow [n7] (some ⟨w7.heap.size, 0, none⟩) 1 (HO7.out.alloc (.cells #[.int .u8 ((n7 : Nat) : Int)] 5)) (by have := HB7.out.size; simp; omega) (by simp [by4]) (brd_one w7 n7 (by omega))
    have b8 : Below w1.heap.size w1 w8 := (HB7.out.alloc HB7.out.size _).trans (grown_below (HO7.out.alloc _) (by have := HB7.out.size; simp; omega) g8)
    have o8c := own_grown (ho7.alloc (.cells #[.int .u8 ((n7 : Nat) : Int)] 5)) g8 (fun b hb e => by
      have h1 := (own_block HO6.out b (by exact e)).2
      have h2 := (own_block ho7 b hb).1
      omega)
    obtain ⟨a7', c7', e7', _, d8⟩ := own_brd o8c (by omega) (encCp_lt c)
    injection e7' with q1 _ q3
    subst q1 q3
    obtain ⟨a8, c8, e8⟩ := own_shape o8
    subst e8
    obtain ⟨v9, w9, r9, o9, g9, _⟩ := app_grow (encCp c) a7 c7 o8 b8.size (by simp [by4]; omega) d8
    have b9 : Below w1.heap.size w1 w9 := b8.trans (grown_below o8 b8.size g9)
    obtain ⟨a9, c9, e9⟩ := own_shape o9
    subst e9
    have HE9 : Hid ([4, a / 256, a % 256, h / 256, h % 256] ++ by4 i ++ [n7] ++ encCp c = ob) := by show _ = _; rw [HE.out, hn7]
    rw [HE9.out, HNOB.out] at o9
    rw [HE9.out, HNOB.out] at r9
    have HO9 := hide (own_low (B' := w.heap.size) o9 (by omega))
    have HB9 := hide (HB1.out.trans (b9.mono (by omega)))
    rw [← HN6.out] at r8
    rw [← hn7] at r9
    obtain ⟨n8, hn8⟩ : ∃ n8, n8 = ([4, a / 256, a % 256, h / 256, h % 256] ++ by4 i ++ [n7]).length := ⟨_, rfl⟩
    rw [← hn8] at r8 r9
    have HR8 := hide r8
    have HR9 := hide r9
    have el : IntKind.u8.wrap (n7 : Int) = (n7 : Int) := by rw [IntKind.wrap_u8]; omega
    rw [← hn7]
    clear r8 r9 o8 o9 g8 g9 b8 b9 o8c d8 ho7 hb7 HO6 HO7 HB6 hn7 hn8 hcl hb67 HE9
    go_wp2_with fail
    refine kept_append_intro _ _ _ _ _ (w' := w8) (by rfl) (by rfl) (by exact HR8.out) ?_
    go_wp2_with fail
    refine kept_append_intro _ _ _ _ _ (w' := w9) (by rfl) (by rfl) (by exact HR9.out) ?_
    clear HR8 HR9
    go_wp2
    exact bodyPost_ret (v := .tuple #[.slice a9 nob c9, .bool true]) (by simp [results, Tryz.results31, go_sem]) rfl ⟨_, rfl, HO9.out, HB9.out⟩
end
section
attribute [local go_sem ↓] kept_append
set_option maxHeartbeats 12800000 in
theorem rbody_good_four (a h : Nat) (i : Nat) (c : Cp) (w : World) (h0 : 1 ≤ a) (h00 : a ≤ 4294967295) (h11 : h ≤ 65535) (h65 : 65535 < a) (hc : goodC c = true) (hi : i < 4294967296) :
    Calls Tryz.prog 31 #[.agg (openMsg 1 (openZ (a : Int) (h : Int) i c))] w fun e w' => ∃ v, e = .returned (.tuple #[v, .bool true]) ∧ w'.ownsRow w.heap.size 5 1 v (openB (a : Int) (h : Int) i c).length (bcells (openB (a : Int) (h : Int) i c)) ∧ Below w.heap.size w w' := by
  have d1 : decide ((a : Int) < 1) = false := decide_eq_false (by omega)
  have d2 : decide ((4294967295 : Int) < (a : Int)) = false := decide_eq_false (by omega)
  have d3 : decide ((h : Int) < 0) = false := decide_eq_false (by omega)
  have d4 : decide ((65535 : Int) < (h : Int)) = false := decide_eq_false (by omega)
  have HC := hide hc
  have HA : Hid (as2 (a : Int) = 23456) := by show as2 _ = _; unfold as2; rw [if_neg (by omega)]
  have HE : Hid (openB (a : Int) (h : Int) i c = [4, 23456 / 256, 23456 % 256, h / 256, h % 256] ++ by4 i ++ [(encCp c).length] ++ encCp c) := by show openB _ _ _ _ = _; unfold openB; rw [HA.out, Int.toNat_natCast]
  have hn16 : 23456 < 65536 := by omega
  generalize openB (a : Int) (h : Int) i c = ob at *
  obtain ⟨nob, hnob⟩ : ∃ nob, ob.length = nob := ⟨_, rfl⟩
  rw [hnob]
  have HNOB := hide hnob
  clear hnob
  clear hc HA
  have d5 : (65535 : Int) < (a : Int) := by omega
  have hb0 : Below w.heap.size w ((w.alloc (.cells #[.int .i64 1, .int .i64 (a : Int), .int .i64 (h : Int), .int .u32 (i : Int), .bool c.four, .int .i64 c.as4, .bool c.gr, .bool c.rs, .int .i64 c.tm, .bool c.fam, .bool c.fwd, .bool c.ll, .int .i64 c.lt, .slice none 0 0, .int .i64 0, .slice none 0 0, .int .u32 0, .int .i64 0, .int .i64 0, .slice none 0 0, .slice none 0 0, .slice none 0 0, .int .i64 0, .int .i64 0, .slice none 0 0] 40)).alloc (.cells #[.int .i64 (a : Int), .int .i64 (h : Int), .int .u32 (i : Int), .bool c.four, .int .i64 c.as4, .bool c.gr, .bool c.rs, .int .i64 c.tm, .bool c.fam, .bool c.fwd, .bool c.ll, .int .i64 c.lt] 28)) := ((Below.refl _ _).alloc (Nat.le_refl _) _).alloc (by simp) _
  have hx0 : ((w.alloc (.cells #[.int .i64 1, .int .i64 (a : Int), .int .i64 (h : Int), .int .u32 (i : Int), .bool c.four, .int .i64 c.as4, .bool c.gr, .bool c.rs, .int .i64 c.tm, .bool c.fam, .bool c.fwd, .bool c.ll, .int .i64 c.lt, .slice none 0 0, .int .i64 0, .slice none 0 0, .int .u32 0, .int .i64 0, .int .i64 0, .slice none 0 0, .slice none 0 0, .slice none 0 0, .int .i64 0, .int .i64 0, .slice none 0 0] 40)).alloc (.cells #[.int .i64 (a : Int), .int .i64 (h : Int), .int .u32 (i : Int), .bool c.four, .int .i64 c.as4, .bool c.gr, .bool c.rs, .int .i64 c.tm, .bool c.fam, .bool c.fwd, .bool c.ll, .int .i64 c.lt] 28)).heap[w.heap.size + 1]? = some (.cells #[.int .i64 (a : Int), .int .i64 (h : Int), .int .u32 (i : Int), .bool c.four, .int .i64 c.as4, .bool c.gr, .bool c.rs, .int .i64 c.tm, .bool c.fam, .bool c.fwd, .bool c.ll, .int .i64 c.lt] 28 (0, 0)) := by
    have h9 := heap_alloc_new (w.alloc (.cells #[.int .i64 1, .int .i64 (a : Int), .int .i64 (h : Int), .int .u32 (i : Int), .bool c.four, .int .i64 c.as4, .bool c.gr, .bool c.rs, .int .i64 c.tm, .bool c.fam, .bool c.fwd, .bool c.ll, .int .i64 c.lt, .slice none 0 0, .int .i64 0, .slice none 0 0, .int .u32 0, .int .i64 0, .int .i64 0, .slice none 0 0, .slice none 0 0, .slice none 0 0, .int .i64 0, .int .i64 0, .slice none 0 0] 40)) (.cells #[.int .i64 (a : Int), .int .i64 (h : Int), .int .u32 (i : Int), .bool c.four, .int .i64 c.as4, .bool c.gr, .bool c.rs, .int .i64 c.tm, .bool c.fam, .bool c.fwd, .bool c.ll, .int .i64 c.lt] 28)
    rw [World.size_alloc] at h9
    exact h9
  unfold openMsg openZ
  simp only [List.append_toArray, List.cons_append, List.nil_append]
  have HB0 := hide hb0
  have HX0 := hide hx0
  have hs0 : w.heap.size + 2 ≤ (((w.alloc (.cells #[.int .i64 1, .int .i64 (a : Int), .int .i64 (h : Int), .int .u32 (i : Int), .bool c.four, .int .i64 c.as4, .bool c.gr, .bool c.rs, .int .i64 c.tm, .bool c.fam, .bool c.fwd, .bool c.ll, .int .i64 c.lt, .slice none 0 0, .int .i64 0, .slice none 0 0, .int .u32 0, .int .i64 0, .int .i64 0, .slice none 0 0, .slice none 0 0, .slice none 0 0, .int .i64 0, .int .i64 0, .slice none 0 0] 40)).alloc (.cells #[.int .i64 (a : Int), .int .i64 (h : Int), .int .u32 (i : Int), .bool c.four, .int .i64 c.as4, .bool c.gr, .bool c.rs, .int .i64 c.tm, .bool c.fam, .bool c.fwd, .bool c.ll, .int .i64 c.lt] 28))).heap.size := by simp
  clear hb0 hx0
  go_enter Tryz.func31, Tryz.ntmps31
  go_wp2_with fail
  generalize ((w.alloc (.cells #[.int .i64 1, .int .i64 (a : Int), .int .i64 (h : Int), .int .u32 (i : Int), .bool c.four, .int .i64 c.as4, .bool c.gr, .bool c.rs, .int .i64 c.tm, .bool c.fam, .bool c.fwd, .bool c.ll, .int .i64 c.lt, .slice none 0 0, .int .i64 0, .slice none 0 0, .int .u32 0, .int .i64 0, .int .i64 0, .slice none 0 0, .slice none 0 0, .slice none 0 0, .int .i64 0, .int .i64 0, .slice none 0 0] 40)).alloc (.cells #[.int .i64 (a : Int), .int .i64 (h : Int), .int .u32 (i : Int), .bool c.four, .int .i64 c.as4, .bool c.gr, .bool c.rs, .int .i64 c.tm, .bool c.fam, .bool c.fwd, .bool c.ll, .int .i64 c.lt] 28)) = w0 at *
  refine (rgoodc_any c w0).mono ?_
  rw [HC.out]
  rintro e w1 ⟨rfl, hb1⟩
  have HB1 := hide (HB0.out.trans (hb1.mono HB0.out.size))
  have HX1 : Hid (w1.heap[w.heap.size + 1]? = some (.cells #[.int .i64 (a : Int), .int .i64 (h : Int), .int .u32 (i : Int), .bool c.four, .int .i64 c.as4, .bool c.gr, .bool c.rs, .int .i64 c.tm, .bool c.fam, .bool c.fwd, .bool c.ll, .int .i64 c.lt] 28 (0, 0))) := by show _ = _; rw [hb1.block _ (by omega)]; exact HX0.out
  have hs1 : w.heap.size + 2 ≤ w1.heap.size := by have := hb1.size; omega
  clear hb1 HB0 HX0 hs0 HC
  have HCL : Hid (∀ W, Below w1.heap.size w1 W → ∀ j v, (#[.int .i64 (a : Int), .int .i64 (h : Int), .int .u32 (i : Int), .bool c.four, .int .i64 c.as4, .bool c.gr, .bool c.rs, .int .i64 c.tm, .bool c.fam, .bool c.fwd, .bool c.ll, .int .i64 c.lt] : Array Value)[j]? = some v → W.cell? ⟨w.heap.size + 1, j, none⟩ = some v) := fun W hW j v hv => by
    have hx : W.heap[w.heap.size + 1]? = some (.cells #[.int .i64 (a : Int), .int .i64 (h : Int), .int .u32 (i : Int), .bool c.four, .int .i64 c.as4, .bool c.gr, .bool c.rs, .int .i64 c.tm, .bool c.fam, .bool c.fwd, .bool c.ll, .int .i64 c.lt] 28 (0, 0)) := by rw [hW.block _ (by omega)]; exact HX1.out
    have := range_of hx j v (by rw [Array.getElem?_toList]; exact hv)
    simpa using this
  have c0 : w1.cell? ⟨w.heap.size + 1, 0, none⟩ = some (.int .i64 (a : Int)) := HCL.out w1 (Below.refl _ _) 0 _ rfl
  have z1 : w.heap.size + 1 < w1.heap.size := by omega
  go_wp2_with fail
  clear c0 z1
  have kc : ∀ W, Below w1.heap.size w1 W → W.cell? ⟨w.heap.size + 1, 1, none⟩ = some (.int .i64 (h : Int)) := fun W hW => HCL.out W hW 1 _ rfl
  refine region_pre2 (fun W => Below w1.heap.size w1 W) [1, 4, 5] 6 #[false, true, false, false, true, true, false, false, false] (by kernel_rfl) (by kernel_rfl) (by rfl) (by kernel_rfl) (by rfl) (Below.refl _ _).drew ?_
  repeat refine pre_q (by rfl) (by rfl) (fun w9 h9 => (by have s0 := kc w9 h9; clear h9; go_simp; first | done | rfl)) (by go_simp; first | done | rfl) ?_
  show wpAnyH _ _ _ _ _ _ _ _ _
  have al : ∀ (w : World) (o : Obj), Below w.heap.size w (w.alloc o) := fun w o => (Below.refl _ _).alloc (Nat.le_refl _) _
  -- both orders end alike
  have tl : Hid (∀ (W2 : World) (G H : Nat), Below w1.heap.size w1 W2 → W2.ownsRow w1.heap.size 5 1 (.slice (some ⟨G, 0, none⟩) 1 1) [4].length (bcells [4]) → BRd W2 (some ⟨H, 0, none⟩) [23456 / 256, 23456 % 256] →
      ∃ v3 w3 v4 w4 a4 c4, (Builtin.append_ #[22, 22] 22 #[.slice (some ⟨G, 0, none⟩) 1 1, .slice (some ⟨H, 0, none⟩) 2 2]).run Tryz.prog W2 = .ok v3 w3 ∧ Below w1.heap.size w1 w3 ∧ (Builtin.append_ #[22, 22] 22 #[v3, .slice (some ⟨w3.heap.size, 0, none⟩) 2 2]).run Tryz.prog (w3.alloc (.cells #[.int .u8 ((h : Int) / 256), .int .u8 ((h : Int) % 256)] 5)) = .ok v4 w4 ∧ v4 = .slice a4 5 c4 ∧ w4.ownsRow w1.heap.size 5 1 (.slice a4 5 c4) [4, 23456 / 256, 23456 % 256, h / 256, h % 256].length (bcells [4, 23456 / 256, 23456 % 256, h / 256, h % 256]) ∧ Below w1.heap.size w1 w4) := fun W2 G H hb2 ho2 hd2 => by
    obtain ⟨v3, w3, r3, o3, g3, _⟩ := app_grow [23456 / 256, 23456 % 256] (some ⟨H, 0, none⟩) 2 ho2 hb2.size (by simp) hd2
    have b3 := hb2.trans (grown_below ho2 hb2.size g3)
    obtain ⟨v4, w4, r4, o4, g4, _⟩ := app_grow [h / 256, h % 256] (some ⟨w3.heap.size, 0, none⟩) 2 (o3.alloc _) (by have := b3.size; simp; omega) (by simp) (brd_two w3 h (by omega))
    have b4 : Below w1.heap.size w1 w4 := (b3.alloc b3.size _).trans (grown_below (o3.alloc _) (by have := b3.size; simp; omega) g4)
    obtain ⟨a4, c4, e4⟩ := own_shape o4
    subst e4
    exact ⟨v3, w3, _, w4, a4, c4, r3, b3, r4, rfl, o4, b4⟩
  have FIN : Hid (∀ (w4 : World) (a4 : Option Addr) (c4 : Nat), Below w1.heap.size w1 w4 → w4.ownsRow w1.heap.size 5 1 (.slice a4 5 c4) [4, 23456 / 256, 23456 % 256, h / 256, h % 256].length (bcells [4, 23456 / 256, 23456 % 256, h / 256, h % 256]) → True) := fun _ _ _ _ _ => trivial
  clear FIN
  refine wpAnyH_all (show Region.ready .any _ _ = [0, 2] from by kernel_rfl) (by simp) fun i9 hi9 => ?_
  have hi2 : i9 = 0 ∨ i9 = 2 := by simpa using hi9
  rcases hi2 with rfl | rfl
  · refine op_plain (by rfl) rfl ?_
    go_simp
    refine ⟨(Below.refl _ _).drew.alloc (Nat.le_refl _) _, ?_⟩
    refine wpAnyH_all (show Region.ready .any _ _ = [2] from by kernel_rfl) (by simp) fun i9 hi9 => ?_
    obtain rfl : i9 = 2 := by simpa using hi9
    refine op_plain (by rfl) rfl ?_
    go_simp
    refine (two_any 23456 _ hn16).mono ?_
    rintro e W2 ⟨rfl, rfl⟩
    have B2 : Below w1.heap.size w1 ((w1.drew.alloc (.cells #[.int .u8 4] 5)).alloc (.cells #[.int .u8 ((23456 : Int) / 256), .int .u8 ((23456 : Int) % 256)] 5)) := ((Below.refl _ _).drew.alloc (Nat.le_refl _) _).alloc (by simp) _
    have O2 := (own_byte1 w1.drew w1.heap.size 4 (Nat.le_refl _)).alloc (.cells #[.int .u8 ((23456 : Int) / 256), .int .u8 ((23456 : Int) % 256)] 5)
    have D2 := brd_two (w1.drew.alloc (.cells #[.int .u8 4] 5)) 23456 hn16
    refine ⟨B2, ?_⟩
    obtain ⟨v3, w3, v4, w4, a4, c4, r3, b3, r4, rfl, o4, b4⟩ := tl.out _ _ _ B2 O2 D2
    refine anyH_ord (L := fun k => k == 3 || k == 6 || k == 7) (by kernel_rfl) (fun c a a' w h => absurd rfl (h.1 c)) [3, 6, 7, 8] _ _ _ (by kernel_rfl) B2 ?_
    refine ord_l (by rfl) (by rfl) (by rfl) ?_
    refine opwp_app _ _ _ _ _ (by rfl) (by rfl) r3 ?_
    refine ⟨b3, ?_⟩
    refine ord_l (by rfl) (by rfl) (by rfl) ?_
    go_simp
    refine (two_any h w3 (by omega)).mono ?_
    rintro e w9 ⟨rfl, rfl⟩
    refine ⟨b3.alloc b3.size _, ?_⟩
    refine ord_l (by rfl) (by rfl) (by rfl) ?_
    refine opwp_app _ _ _ _ _ (by rfl) (by rfl) r4 ?_
    refine ⟨b4, ?_⟩
    repeat refine ord_q (by rfl) (by rfl) (by rfl) (fun w9 h9 => (by go_simp; first | done | rfl)) (by go_simp; first | done | rfl) ?_
    refine ⟨fun _ h => (by cases h), ?_⟩
    have HO4 := hide o4
    have HB4 := hide b4
    clear r3 b3 r4 o4 b4 tl kc
    have c2 : w4.cell? ⟨w.heap.size + 1, 2, none⟩ = some (.int .u32 (i : Int)) := HCL.out w4 HB4.out 2 _ rfl
    have z4 : w.heap.size + 1 < w4.heap.size := by have := HB4.out.size; omega
    have ei : IntKind.i64.wrap (i : Int) = (i : Int) := by rw [IntKind.wrap_i64]; omega
    go_wp2_with fail
    refine (four_eq i w4 hi).mono ?_
    rintro e w5 ⟨rfl, rfl⟩
    clear c2 z4
    obtain ⟨v6, w6, r6, o6, g6, _⟩ := app_grow (by4 i) (some ⟨w4.heap.size, 0, none⟩) 4 (HO4.out.alloc (.cells (bcells ((List.range 4).map (byteAt i))).toArray 5)) (by have := HB4.out.size; simp; omega) (by simp [by4]) (brd_lits w4 (by4 i) (by simp [by4]) (by4_lt i))
    have b6 : Below w1.heap.size w1 w6 := (HB4.out.alloc HB4.out.size _).trans (grown_below (HO4.out.alloc _) (by have := HB4.out.size; simp; omega) g6)
    obtain ⟨a6, c6, e6⟩ := own_shape o6
    subst e6
    obtain ⟨n6, hn6⟩ : ∃ n6, n6 = ([4, 23456 / 256, 23456 % 256, h / 256, h % 256] ++ by4 i).length := ⟨_, rfl⟩
    rw [← hn6] at r6
    have HR6 := hide r6
    have HO6 := hide o6
    have HB6 := hide b6
    have HN6 := hide hn6
    clear r6 o6 b6 g6 hn6
    go_wp2_with fail
    refine kept_append_intro _ _ _ _ _ (w' := w6) (by rfl) (by rfl) (by exact HR6.out) ?_
    clear HR6 HO4 HB4
    have k3 : w6.cell? ⟨w.heap.size + 1, 3, none⟩ = some (.bool c.four) := HCL.out w6 HB6.out 3 _ rfl
    have k4 : w6.cell? ⟨w.heap.size + 1, 4, none⟩ = some (.int .i64 c.as4) := HCL.out w6 HB6.out 4 _ rfl
    have k5 : w6.cell? ⟨w.heap.size + 1, 5, none⟩ = some (.bool c.gr) := HCL.out w6 HB6.out 5 _ rfl
    have k6 : w6.cell? ⟨w.heap.size + 1, 6, none⟩ = some (.bool c.rs) := HCL.out w6 HB6.out 6 _ rfl
    have k7 : w6.cell? ⟨w.heap.size + 1, 7, none⟩ = some (.int .i64 c.tm) := HCL.out w6 HB6.out 7 _ rfl
    have k8 : w6.cell? ⟨w.heap.size + 1, 8, none⟩ = some (.bool c.fam) := HCL.out w6 HB6.out 8 _ rfl
    have k9 : w6.cell? ⟨w.heap.size + 1, 9, none⟩ = some (.bool c.fwd) := HCL.out w6 HB6.out 9 _ rfl
    have k10 : w6.cell? ⟨w.heap.size + 1, 10, none⟩ = some (.bool c.ll) := HCL.out w6 HB6.out 10 _ rfl
    have k11 : w6.cell? ⟨w.heap.size + 1, 11, none⟩ = some (.int .i64 c.lt) := HCL.out w6 HB6.out 11 _ rfl
    have z6 : w.heap.size + 1 < w6.heap.size := by have := HB6.out.size; omega
    go_wp2_with fail
    refine (rcaps_any c w6).mono ?_
    rintro e w7 ⟨v7, rfl, ho7, hb7⟩
    clear k3 k4 k5 k6 k7 k8 k9 k10 k11 z6 HCL
    have hcl := encCp_length c
    obtain ⟨a7, c7, rfl⟩ := own_shape ho7
    have HB7 : Hid (Below w1.heap.size w1 w7) := HB6.out.trans (hb7.mono HB6.out.size)
    have HO7 := hide (own_later HO6.out hb7)
    have hb67 := hb7.size
    obtain ⟨n7, hn7⟩ : ∃ n7, n7 = (encCp c).length := ⟨_, rfl⟩
    obtain ⟨v8, w8, r8, o8, g8, _⟩ := app_grow [n7] (some ⟨w7.heap.size, 0, none⟩) 1 (HO7.out.alloc (.cells #[.int .u8 ((n7 : Nat) : Int)] 5)) (by have := HB7.out.size; simp; omega) (by simp [by4]) (brd_one w7 n7 (by omega))
    have b8 : Below w1.heap.size w1 w8 := (HB7.out.alloc HB7.out.size _).trans (grown_below (HO7.out.alloc _) (by have := HB7.out.size; simp; omega) g8)
    have o8c := own_grown (ho7.alloc (.cells #[.int .u8 ((n7 : Nat) : Int)] 5)) g8 (fun b hb e => by
      have h1 := (own_block HO6.out b (by exact e)).2
      have h2 := (own_block ho7 b hb).1
      omega)
    obtain ⟨a7', c7', e7', _, d8⟩ := own_brd o8c (by omega) (encCp_lt c)
    injection e7' with q1 _ q3
    subst q1 q3
    obtain ⟨a8, c8, e8⟩ := own_shape o8
    subst e8
    obtain ⟨v9, w9, r9, o9, g9, _⟩ := app_grow (encCp c) a7 c7 o8 b8.size (by simp [by4]; omega) d8
    have b9 : Below w1.heap.size w1 w9 := b8.trans (grown_below o8 b8.size g9)
    obtain ⟨a9, c9, e9⟩ := own_shape o9
    subst e9
    have HE9 : Hid ([4, 23456 / 256, 23456 % 256, h / 256, h % 256] ++ by4 i ++ [n7] ++ encCp c = ob) := by show _ = _; rw [HE.out, hn7]
    rw [HE9.out, HNOB.out] at o9
    rw [HE9.out, HNOB.out] at r9
    have HO9 := hide (own_low (B' := w.heap.size) o9 (by omega))
    have HB9 := hide (HB1.out.trans (b9.mono (by omega)))
    rw [← HN6.out] at r8
    rw [← hn7] at r9
    obtain ⟨n8, hn8⟩ : ∃ n8, n8 = ([4, 23456 / 256, 23456 % 256, h / 256, h % 256] ++ by4 i ++ [n7]).length := ⟨_, rfl⟩
    rw [← hn8] at r8 r9
    have HR8 := hide r8
    have HR9 := hide r9
    have el : IntKind.u8.wrap (n7 : Int) = (n7 : Int) := by rw [IntKind.wrap_u8]; omega
    rw [← hn7]
    clear r8 r9 o8 o9 g8 g9 b8 b9 o8c d8 ho7 hb7 HO6 HO7 HB6 hn7 hn8 hcl hb67 HE9
    go_wp2_with fail
    refine kept_append_intro _ _ _ _ _ (w' := w8) (by rfl) (by rfl) (by exact HR8.out) ?_
    go_wp2_with fail
    refine kept_append_intro _ _ _ _ _ (w' := w9) (by rfl) (by rfl) (by exact HR9.out) ?_
    clear HR8 HR9
    go_wp2
    exact bodyPost_ret (v := .tuple #[.slice a9 nob c9, .bool true]) (by simp [results, Tryz.results31, go_sem]) rfl ⟨_, rfl, HO9.out, HB9.out⟩
  · refine op_plain (by rfl) rfl ?_
    go_simp
    refine (two_any 23456 _ hn16).mono ?_
    rintro e W2 ⟨rfl, rfl⟩
    refine ⟨(Below.refl _ _).drew.alloc (Nat.le_refl _) _, ?_⟩
    refine wpAnyH_all (show Region.ready .any _ _ = [0] from by kernel_rfl) (by simp) fun i9 hi9 => ?_
    obtain rfl : i9 = 0 := by simpa using hi9
    refine op_plain (by rfl) rfl ?_
    go_simp
    have B2 : Below w1.heap.size w1 ((w1.drew.alloc (.cells #[.int .u8 ((23456 : Int) / 256), .int .u8 ((23456 : Int) % 256)] 5)).alloc (.cells #[.int .u8 4] 5)) := ((Below.refl _ _).drew.alloc (Nat.le_refl _) _).alloc (by simp) _
    have O2 := own_byte1 (w1.drew.alloc (.cells #[.int .u8 ((23456 : Int) / 256), .int .u8 ((23456 : Int) % 256)] 5)) w1.heap.size 4 (by simp)
    rw [show (w1.drew.alloc (.cells #[.int .u8 ((23456 : Int) / 256), .int .u8 ((23456 : Int) % 256)] 5)).heap.size = w1.heap.size + 1 from by simp] at O2
    have D2 := (brd_two w1.drew 23456 hn16).below (al _ (.cells #[.int .u8 4] 5))
    refine ⟨B2, ?_⟩
    obtain ⟨v3, w3, v4, w4, a4, c4, r3, b3, r4, rfl, o4, b4⟩ := tl.out _ _ _ B2 O2 D2
    refine anyH_ord (L := fun k => k == 3 || k == 6 || k == 7) (by kernel_rfl) (fun c a a' w h => absurd rfl (h.1 c)) [3, 6, 7, 8] _ _ _ (by kernel_rfl) B2 ?_
    refine ord_l (by rfl) (by rfl) (by rfl) ?_
    refine opwp_app _ _ _ _ _ (by rfl) (by rfl) r3 ?_
    refine ⟨b3, ?_⟩
    refine ord_l (by rfl) (by rfl) (by rfl) ?_
    go_simp
    refine (two_any h w3 (by omega)).mono ?_
    rintro e w9 ⟨rfl, rfl⟩
    refine ⟨b3.alloc b3.size _, ?_⟩
    refine ord_l (by rfl) (by rfl) (by rfl) ?_
    refine opwp_app _ _ _ _ _ (by rfl) (by rfl) r4 ?_
    refine ⟨b4, ?_⟩
    repeat refine ord_q (by rfl) (by rfl) (by rfl) (fun w9 h9 => (by go_simp; first | done | rfl)) (by go_simp; first | done | rfl) ?_
    refine ⟨fun _ h => (by cases h), ?_⟩
    have HO4 := hide o4
    have HB4 := hide b4
    clear r3 b3 r4 o4 b4 tl kc
    have c2 : w4.cell? ⟨w.heap.size + 1, 2, none⟩ = some (.int .u32 (i : Int)) := HCL.out w4 HB4.out 2 _ rfl
    have z4 : w.heap.size + 1 < w4.heap.size := by have := HB4.out.size; omega
    have ei : IntKind.i64.wrap (i : Int) = (i : Int) := by rw [IntKind.wrap_i64]; omega
    go_wp2_with fail
    refine (four_eq i w4 hi).mono ?_
    rintro e w5 ⟨rfl, rfl⟩
    clear c2 z4
    obtain ⟨v6, w6, r6, o6, g6, _⟩ := app_grow (by4 i) (some ⟨w4.heap.size, 0, none⟩) 4 (HO4.out.alloc (.cells (bcells ((List.range 4).map (byteAt i))).toArray 5)) (by have := HB4.out.size; simp; omega) (by simp [by4]) (brd_lits w4 (by4 i) (by simp [by4]) (by4_lt i))
    have b6 : Below w1.heap.size w1 w6 := (HB4.out.alloc HB4.out.size _).trans (grown_below (HO4.out.alloc _) (by have := HB4.out.size; simp; omega) g6)
    obtain ⟨a6, c6, e6⟩ := own_shape o6
    subst e6
    obtain ⟨n6, hn6⟩ : ∃ n6, n6 = ([4, 23456 / 256, 23456 % 256, h / 256, h % 256] ++ by4 i).length := ⟨_, rfl⟩
    rw [← hn6] at r6
    have HR6 := hide r6
    have HO6 := hide o6
    have HB6 := hide b6
    have HN6 := hide hn6
    clear r6 o6 b6 g6 hn6
    go_wp2_with fail
    refine kept_append_intro _ _ _ _ _ (w' := w6) (by rfl) (by rfl) (by exact HR6.out) ?_
    clear HR6 HO4 HB4
    have k3 : w6.cell? ⟨w.heap.size + 1, 3, none⟩ = some (.bool c.four) := HCL.out w6 HB6.out 3 _ rfl
    have k4 : w6.cell? ⟨w.heap.size + 1, 4, none⟩ = some (.int .i64 c.as4) := HCL.out w6 HB6.out 4 _ rfl
    have k5 : w6.cell? ⟨w.heap.size + 1, 5, none⟩ = some (.bool c.gr) := HCL.out w6 HB6.out 5 _ rfl
    have k6 : w6.cell? ⟨w.heap.size + 1, 6, none⟩ = some (.bool c.rs) := HCL.out w6 HB6.out 6 _ rfl
    have k7 : w6.cell? ⟨w.heap.size + 1, 7, none⟩ = some (.int .i64 c.tm) := HCL.out w6 HB6.out 7 _ rfl
    have k8 : w6.cell? ⟨w.heap.size + 1, 8, none⟩ = some (.bool c.fam) := HCL.out w6 HB6.out 8 _ rfl
    have k9 : w6.cell? ⟨w.heap.size + 1, 9, none⟩ = some (.bool c.fwd) := HCL.out w6 HB6.out 9 _ rfl
    have k10 : w6.cell? ⟨w.heap.size + 1, 10, none⟩ = some (.bool c.ll) := HCL.out w6 HB6.out 10 _ rfl
    have k11 : w6.cell? ⟨w.heap.size + 1, 11, none⟩ = some (.int .i64 c.lt) := HCL.out w6 HB6.out 11 _ rfl
    have z6 : w.heap.size + 1 < w6.heap.size := by have := HB6.out.size; omega
    go_wp2_with fail
    refine (rcaps_any c w6).mono ?_
    rintro e w7 ⟨v7, rfl, ho7, hb7⟩
    clear k3 k4 k5 k6 k7 k8 k9 k10 k11 z6 HCL
    have hcl := encCp_length c
    obtain ⟨a7, c7, rfl⟩ := own_shape ho7
    have HB7 : Hid (Below w1.heap.size w1 w7) := HB6.out.trans (hb7.mono HB6.out.size)
    have HO7 := hide (own_later HO6.out hb7)
    have hb67 := hb7.size
    obtain ⟨n7, hn7⟩ : ∃ n7, n7 = (encCp c).length := ⟨_, rfl⟩
    obtain ⟨v8, w8, r8, o8, g8, _⟩ := app_grow [n7] (some ⟨w7.heap.size, 0, none⟩) 1 (HO7.out.alloc (.cells #[.int .u8 ((n7 : Nat) : Int)] 5)) (by have := HB7.out.size; simp; omega) (by simp [by4]) (brd_one w7 n7 (by omega))
    have b8 : Below w1.heap.size w1 w8 := (HB7.out.alloc HB7.out.size _).trans (grown_below (HO7.out.alloc _) (by have := HB7.out.size; simp; omega) g8)
    have o8c := own_grown (ho7.alloc (.cells #[.int .u8 ((n7 : Nat) : Int)] 5)) g8 (fun b hb e => by
      have h1 := (own_block HO6.out b (by exact e)).2
      have h2 := (own_block ho7 b hb).1
      omega)
    obtain ⟨a7', c7', e7', _, d8⟩ := own_brd o8c (by omega) (encCp_lt c)
    injection e7' with q1 _ q3
    subst q1 q3
    obtain ⟨a8, c8, e8⟩ := own_shape o8
    subst e8
    obtain ⟨v9, w9, r9, o9, g9, _⟩ := app_grow (encCp c) a7 c7 o8 b8.size (by simp [by4]; omega) d8
    have b9 : Below w1.heap.size w1 w9 := b8.trans (grown_below o8 b8.size g9)
    obtain ⟨a9, c9, e9⟩ := own_shape o9
    subst e9
    have HE9 : Hid ([4, 23456 / 256, 23456 % 256, h / 256, h % 256] ++ by4 i ++ [n7] ++ encCp c = ob) := by show _ = _; rw [HE.out, hn7]
    rw [HE9.out, HNOB.out] at o9
    rw [HE9.out, HNOB.out] at r9
    have HO9 := hide (own_low (B' := w.heap.size) o9 (by omega))
    have HB9 := hide (HB1.out.trans (b9.mono (by omega)))
    rw [← HN6.out] at r8
    rw [← hn7] at r9
    obtain ⟨n8, hn8⟩ : ∃ n8, n8 = ([4, 23456 / 256, 23456 % 256, h / 256, h % 256] ++ by4 i ++ [n7]).length := ⟨_, rfl⟩
    rw [← hn8] at r8 r9
    have HR8 := hide r8
    have HR9 := hide r9
    have el : IntKind.u8.wrap (n7 : Int) = (n7 : Int) := by rw [IntKind.wrap_u8]; omega
    rw [← hn7]
    clear r8 r9 o8 o9 g8 g9 b8 b9 o8c d8 ho7 hb7 HO6 HO7 HB6 hn7 hn8 hcl hb67 HE9
    go_wp2_with fail
    refine kept_append_intro _ _ _ _ _ (w' := w8) (by rfl) (by rfl) (by exact HR8.out) ?_
    go_wp2_with fail
    refine kept_append_intro _ _ _ _ _ (w' := w9) (by rfl) (by rfl) (by exact HR9.out) ?_
    clear HR8 HR9
    go_wp2
    exact bodyPost_ret (v := .tuple #[.slice a9 nob c9, .bool true]) (by simp [results, Tryz.results31, go_sem]) rfl ⟨_, rfl, HO9.out, HB9.out⟩
end
theorem rbody_open (a h : Int) (i : Nat) (c : Cp) (w : World) (hg : openG a h c = true) (hi : i < 4294967296) :
    Calls Tryz.prog 31 #[.agg (openMsg 1 (openZ a h i c))] w fun e w' => ∃ v, e = .returned (.tuple #[v, .bool true]) ∧ w'.ownsRow w.heap.size 5 1 v (openB a h i c).length (bcells (openB a h i c)) ∧ Below w.heap.size w w' := by
  unfold openG at hg
  simp only [Bool.and_eq_true, decide_eq_true_eq] at hg
  obtain ⟨⟨⟨a1, a2⟩, h1, h2⟩, hc⟩ := hg
  obtain ⟨n, rfl⟩ := Int.eq_ofNat_of_zero_le (show 0 ≤ a by omega)
  obtain ⟨m, rfl⟩ := Int.eq_ofNat_of_zero_le h1
  by_cases h65 : n ≤ 65535
  · exact rbody_good_two n m i c w (by omega) (by omega) (by omega) h65 hc hi
  · exact rbody_good_four n m i c w (by omega) (by omega) (by omega) (by omega) hc hi
end Go.Proofs.YtkmfnafecdfedaaGreatDoor
