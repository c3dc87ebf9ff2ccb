/- The document's Num and Four. -/
import Derived.Test.YtmpnnfbpknfekaaApE
import Derived.Test.YtmpnnfbpknfekaaPfxD
import Derived.Deep.QuietTactic
import Derived.BigQuiet
namespace Go.Proofs.Ytmpnnfbpknfekaa
open Go.RowKit
set_option maxRecDepth 100000

/-- The number of four bytes. -/
def num (f : Nat → Nat) : Nat := f 0 * 16777216 + f 1 * 65536 + f 2 * 256 + f 3
theorem num_up (f : Nat → Nat) : num f = numUp f 0 4 := by
  simp only [num, numUp, Nat.zero_add, Nat.sub_zero, Nat.reduceSub, Nat.reduceMul, Nat.reducePow, Nat.mul_one, Nat.add_zero]
theorem four_cells (v : Nat) (hv : v < 4294967296) : (bcells ((List.range 4).map (byteAt v))).toArray = #[.int .u8 ((v : Int) / 16777216), .int .u8 ((v : Int) / 65536 % 256), .int .u8 ((v : Int) / 256 % 256), .int .u8 ((v : Int) % 256)] := by
  have e : bcells ((List.range 4).map (byteAt v)) = [.int .u8 (byteAt v 0 : Int), .int .u8 (byteAt v 1 : Int), .int .u8 (byteAt v 2 : Int), .int .u8 (byteAt v 3 : Int)] := rfl
  rw [e]
  unfold byteAt
  simp only [Nat.sub_zero, Nat.reduceSub, Nat.reduceMul, Nat.reducePow, Nat.pow_zero, Nat.div_one]
  have e0 : ((v / 16777216 % 256 : Nat) : Int) = (v : Int) / 16777216 := by omega
  have e1 : ((v / 65536 % 256 : Nat) : Int) = (v : Int) / 65536 % 256 := by omega
  have e2 : ((v / 256 % 256 : Nat) : Int) = (v : Int) / 256 % 256 := by omega
  have e3 : ((v % 256 : Nat) : Int) = (v : Int) % 256 := by omega
  rw [e0, e1, e2, e3]
set_option maxHeartbeats 800000 in
theorem four_eq (v : Nat) (w : World) (hv : v < 4294967296) : Calls Try.prog 18 #[.int .i64 (v : Int)] w fun e w' =>
    e = .returned (.slice (some ⟨w.heap.size, 0, none⟩) 4 4) ∧ w' = w.alloc (.cells (bcells ((List.range 4).map (byteAt v))).toArray 5) := by
  have HV := hide (four_cells v hv)
  go_enter Try.func18, Try.ntmps18
  go_wp2
  go_ret
  rw [HV.out]
  exact ⟨rfl, rfl⟩
end Go.Proofs.Ytmpnnfbpknfekaa
