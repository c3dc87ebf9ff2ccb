/- Bytes behind a row of the call's own; the document's one. -/
import Derived.Test.YtmpnnfbpknfekaaAtP
import Derived.Test.YtmpnnfbpknfekaaBrd
namespace Go.Proofs.Ytmpnnfbpknfekaa
open Go.RowKit
set_option maxRecDepth 100000

/-- An attribute's bytes. -/
def oneB (fl ty : Nat) (bs : List Nat) : List Nat := if 255 < bs.length then [fl + 16, ty, bs.length / 256, bs.length % 256] ++ bs else [fl, ty, bs.length] ++ bs
theorem oneB_length (fl ty : Nat) (bs : List Nat) : (oneB fl ty bs).length ≤ bs.length + 4 := by
  unfold oneB
  split <;> simp
theorem oneB_pos (fl ty : Nat) (bs : List Nat) : 0 < (oneB fl ty bs).length := by
  unfold oneB
  split <;> simp
theorem oneB_lt (fl ty : Nat) (bs : List Nat) (hf : fl < 240) (ht : ty < 256) (hl : bs.length < 65536) (hb : ∀ x ∈ bs, x < 256) : ∀ x ∈ oneB fl ty bs, x < 256 := by
  intro x hx
  unfold oneB at hx
  split at hx
  · simp only [List.cons_append, List.nil_append, List.mem_cons] at hx
    rcases hx with rfl | rfl | rfl | rfl | hx
    · omega
    · omega
    · omega
    · omega
    · exact hb x hx
  · simp only [List.cons_append, List.nil_append, List.mem_cons] at hx
    rcases hx with rfl | rfl | rfl | hx
    · omega
    · omega
    · omega
    · exact hb x hx
end Go.Proofs.Ytmpnnfbpknfekaa
