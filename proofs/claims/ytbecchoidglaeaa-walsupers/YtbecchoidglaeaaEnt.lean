/- An entry in plain numbers: its head, its pages, how many there are. -/
import Derived.Test.YtbecchoidglaeaaCrc
import Derived.Test.YtbecchoidglaeaaFour
namespace Go.Proofs.Ytbecchoidglaeaa
open Go.RowKit
set_option maxRecDepth 100000

/-- The bytes f 0 .. f (n - 1), then g's. -/
def cat (f : Nat → Nat) (n : Nat) (g : Nat → Nat) : Nat → Nat := fun j => if j < n then f j else g (j - n)
theorem vals_cat (f g : Nat → Nat) (n m : Nat) : valsOf f n ++ valsOf g m = valsOf (cat f n g) (n + m) := by
  apply List.ext_getElem?
  intro j
  by_cases h : j < n
  · rw [List.getElem?_append_left (by rw [valsOf_length]; exact h), valsOf_get _ _ _ h, valsOf_get _ _ _ (by omega)]
    simp [cat, h]
  · rw [List.getElem?_append_right (by rw [valsOf_length]; omega), valsOf_length]
    by_cases h2 : j < n + m
    · rw [valsOf_get _ _ _ (by omega), valsOf_get _ _ _ h2]
      simp [cat, h]
    · rw [List.getElem?_eq_none (by rw [valsOf_length]; omega), List.getElem?_eq_none (by rw [valsOf_length]; omega)]
theorem cat_lt {f g : Nat → Nat} {n m : Nat} (hf : ∀ i, i < n → f i < 256) (hg : ∀ i, i < m → g i < 256) : ∀ i, i < n + m → cat f n g i < 256 := by
  intro i hi
  unfold cat
  split
  · exact hf i (by omega)
  · exact hg _ (by omega)
/-- The twelve bytes of a head that are summed. -/
def head12 (gen len c : Nat) : Nat → Nat := cat (cat (four gen) 4 (four len)) 8 (four c)
/-- The sixteen bytes of a head. -/
def head16 (gen len c : Nat) : Nat → Nat := cat (head12 gen len c) 12 (four (crc (head12 gen len c) 12))
theorem head12_lt (gen len c : Nat) : ∀ i, i < 12 → head12 gen len c i < 256 := cat_lt (n := 8) (m := 4) (cat_lt (n := 4) (m := 4) (fun i _ => four_lt _ i) (fun i _ => four_lt _ i)) (fun i _ => four_lt _ i)
theorem head16_lt (gen len c : Nat) : ∀ i, i < 16 → head16 gen len c i < 256 := cat_lt (n := 12) (m := 4) (head12_lt gen len c) (fun i _ => four_lt _ i)
/-- Page i of an entry of generation gen with the len bytes f. -/
def ent (gen : Nat) (f : Nat → Nat) (len : Nat) : Nat → Nat → Nat
  | 0 => fill (head16 gen len (crc f len)) 16
  | i + 1 => fill (fun j => f (i * 64 + j)) (len - i * 64)
/-- How many pages it has. -/
def cnt (len : Nat) : Nat := 1 + (len + 63) / 64
end Go.Proofs.Ytbecchoidglaeaa
