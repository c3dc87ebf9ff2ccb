/- The document's Crash, whatever is torn. -/
import Derived.Test.YtolbifboibjgcaaRCrashA
import Derived.Test.YtolbifboibjgcaaRCrashB
import Derived.Test.YtolbifboibjgcaaRCrashC
import Derived.Test.YtolbifboibjgcaaRCrashD
namespace Go.Proofs.Ytolbifboibjgcaa
open Go.RowKit

theorem rcrash_in {w : World} {V : Nat} {sv lv : Value} {pgs : List Value} {lps : List (Nat × Value)} {P : Nat → Prop} {s : St} (h : RefIn w V sv lv pgs lps P s) (keep : Nat) (torn at_ : Int) :
    Calls Try.prog 30 #[.pointer (some ⟨V, 0, none⟩), .int .u64 (keep : Int), .int .i64 torn, .int .i64 at_] w fun e w' =>
      e = .returned (.tuple #[]) ∧ ∃ W' P', RDisk w' V (s.crash keep torn at_) W' P' ∧ RStep (rfoot V sv lv) P W' P' w w' := by
  by_cases h0 : at_ < 0
  · exact rcrash_low h keep torn at_ h0
  · by_cases h1 : 64 < at_
    · exact rcrash_big h keep torn at_ h1
    · by_cases h2 : at_ = 64
      · have := rcrash_end h keep torn at_ h2
        rw [← h2] at this
        exact this
      · obtain ⟨m, rfl⟩ := Int.eq_ofNat_of_zero_le (show 0 ≤ at_ by omega)
        exact rcrash_mid h keep torn m (by omega)
section
variable {w : World} {V : Nat} {s : St} {W P : Nat → Prop}
theorem rdisk_crash (h : RDisk w V s W P) (keep torn at_ : Int) (hk0 : 0 ≤ keep) :
    Calls Try.prog 30 #[.pointer (some ⟨V, 0, none⟩), .int .u64 keep, .int .i64 torn, .int .i64 at_] w fun e w' =>
      e = .returned (.tuple #[]) ∧ ∃ W' P', RDisk w' V (s.crash keep.toNat torn at_) W' P' ∧ RStep W P W' P' w w' := by
  obtain ⟨keep, rfl⟩ := Int.eq_ofNat_of_zero_le hk0
  obtain ⟨sv, lv, pgs, lps, h, rfl⟩ := h
  exact rcrash_in h keep torn at_
end
end Go.Proofs.Ytolbifboibjgcaa
