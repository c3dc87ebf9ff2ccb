/- The document's Num and Four. -/
import Derived.Test.YtkmfnafecdfedaaGreatDoorApE
import Derived.Test.YtkmfnafecdfedaaGreatDoorHPf
import Derived.Deep.QuietTactic
import Derived.BigQuiet
namespace Go.Proofs.YtkmfnafecdfedaaGreatDoor
open Go.RowKit
set_option maxRecDepth 100000

/-- The number of four bytes. -/
def num (f : Nat → Nat) : Nat := f 0 * 16777216 + f 1 * 65536 + f 2 * 256 + f 3
theorem num_up (f : Nat → Nat) : num f = numUp f 0 4 := by
  simp only [num, numUp, Nat.zero_add, Nat.sub_zero, Nat.reduceSub, Nat.reduceMul, Nat.reducePow, Nat.mul_one, Nat.add_zero]
set_option maxHeartbeats 800000 in
theorem num_eq (b off len cap : Nat) (f : Nat → Nat) (w : World) (hl : 4 ≤ len) (hf : ∀ i, i < 4 → f i < 256) (hc : ∀ i, i < 4 → w.cell? ⟨b, off + i, none⟩ = some (.int .u8 (f i : Int))) :
    Calls Tryz.prog 26 #[.slice (some ⟨b, off, none⟩) len cap] w fun e w' => e = .returned (.int .i64 (num f : Int)) ∧ ∃ k, w' = w.drewN k := by
  have h0 := hf 0 (by omega)
  have h1 := hf 1 (by omega)
  have h2 := hf 2 (by omega)
  have h3 := hf 3 (by omega)
  have c0 := hc 0 (by omega)
  have c1 := hc 1 (by omega)
  have c2 := hc 2 (by omega)
  have c3 := hc 3 (by omega)
  rw [Nat.add_zero] at c0
  have l0 : (0 : Int) < (len : Int) := by omega
  have l1 : (1 : Int) < (len : Int) := by omega
  have l2 : (2 : Int) < (len : Int) := by omega
  have l3 : (3 : Int) < (len : Int) := by omega
  have HN : Hid ((num f : Int) = (f 0 : Int) * 16777216 + (f 1 : Int) * 65536 + (f 2 : Int) * 256 + (f 3 : Int)) := by show ((num f : Nat) : Int) = _; unfold num; omega
  clear hc hf
  generalize f 0 = x0 at *
  generalize f 1 = x1 at *
  generalize f 2 = x2 at *
  generalize f 3 = x3 at *
  go_enter Tryz.func26, Tryz.ntmps26
  go_wp2_with fail
  go_quiet (fail)
  go_wp2
  go_ret
  exact ⟨ret_int HN.out.symm, nq, rfl⟩
theorem four_cells (v : Nat) (hv : v < 4294967296) : (bcells ((List.range 4).map (byteAt v))).toArray = #[.int .u8 ((v : Int) / 16777216), .int .u8 ((v : Int) / 65536 % 256), .int .u8 ((v : Int) / 256 % 256), .int .u8 ((v : Int) % 256)] := by
  have e : bcells ((List.range 4).map (byteAt v)) = [.int .u8 (byteAt v 0 : Int), .int .u8 (byteAt v 1 : Int), .int .u8 (byteAt v 2 : Int), .int .u8 (byteAt v 3 : Int)] := rfl
  rw [e]
  unfold byteAt
  simp only [Nat.sub_zero, Nat.reduceSub, Nat.reduceMul, Nat.reducePow, Nat.pow_zero, Nat.div_one]
  have e0 : ((v / 16777216 % 256 : Nat) : Int) = (v : Int) / 16777216 := by omega
  have e1 : ((v / 65536 % 256 : Nat) : Int) = (v : Int) / 65536 % 256 := by omega
  have e2 : ((v / 256 % 256 : Nat) : Int) = (v : Int) / 256 % 256 := by omega
  have e3 : ((v % 256 : Nat) : Int) = (v : Int) % 256 := by omega
  rw [e0, e1, e2, e3]
set_option maxHeartbeats 800000 in
theorem four_eq (v : Nat) (w : World) (hv : v < 4294967296) : Calls Tryz.prog 51 #[.int .i64 (v : Int)] w fun e w' =>
    e = .returned (.slice (some ⟨w.heap.size, 0, none⟩) 4 4) ∧ w' = w.alloc (.cells (bcells ((List.range 4).map (byteAt v))).toArray 5) := by
  have HV := hide (four_cells v hv)
  go_enter Tryz.func51, Tryz.ntmps51
  go_wp2
  go_ret
  rw [HV.out]
  exact ⟨rfl, rfl⟩
end Go.Proofs.YtkmfnafecdfedaaGreatDoor
