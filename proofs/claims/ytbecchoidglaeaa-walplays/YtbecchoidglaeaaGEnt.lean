/- The document's numbers in four bytes: Four, Num. -/
import Derived.Test.YtbecchoidglaeaaGRef
import Derived.Deep.QuietTactic
import Derived.BigQuiet
import Derived.Test.YtbecchoidglaeaaGCrc
namespace Go.Proofs.Ytbecchoidglaeaa
open Go.RowKit
set_option maxRecDepth 100000

/-- Byte j of v in four bytes, the highest first. -/
def four (v j : Nat) : Nat := v / 256 ^ (3 - j) % 256
theorem four_lt (v j : Nat) : four v j < 256 := Nat.mod_lt _ (by omega)
/-- The number of four bytes. -/
def num (f : Nat → Nat) : Nat := f 0 * 16777216 + f 1 * 65536 + f 2 * 256 + f 3
theorem num_four (v : Nat) (h : v < 4294967296) : num (four v) = v := by
  unfold num four
  simp only [Nat.sub_zero, Nat.reduceSub, Nat.reducePow, Nat.pow_zero, Nat.div_one, Nat.pow_one]
  omega
theorem four_num (f : Nat → Nat) (hf : ∀ i, i < 4 → f i < 256) : ∀ j, j < 4 → four (num f) j = f j := by
  intro j hj
  have h0 := hf 0 (by omega)
  have h1 := hf 1 (by omega)
  have h2 := hf 2 (by omega)
  have h3 := hf 3 (by omega)
  unfold num four
  match j, hj with
  | 0, _ | 1, _ | 2, _ | 3, _ =>
    simp only [Nat.sub_zero, Nat.reduceSub, Nat.reducePow, Nat.pow_zero, Nat.div_one, Nat.pow_one]
    omega
theorem num_lt (f : Nat → Nat) (hf : ∀ i, i < 4 → f i < 256) : num f < 4294967296 := by
  have h0 := hf 0 (by omega)
  have h1 := hf 1 (by omega)
  have h2 := hf 2 (by omega)
  have h3 := hf 3 (by omega)
  unfold num
  omega
theorem four_vals (v : Nat) (hv : v < 4294967296) : (valsOf (four v) 4).toArray = #[.int .u8 ((v : Int) / 16777216), .int .u8 ((v : Int) / 65536 % 256), .int .u8 ((v : Int) / 256 % 256), .int .u8 ((v : Int) % 256)] := by
  have e : valsOf (four v) 4 = [.int .u8 (four v 0 : Int), .int .u8 (four v 1 : Int), .int .u8 (four v 2 : Int), .int .u8 (four v 3 : Int)] := rfl
  rw [e]
  unfold four
  simp only [Nat.sub_zero, Nat.reduceSub, Nat.reducePow, Nat.pow_zero, Nat.div_one, Nat.pow_one]
  have e0 : ((v / 16777216 % 256 : Nat) : Int) = (v : Int) / 16777216 := by omega
  have e1 : ((v / 65536 % 256 : Nat) : Int) = (v : Int) / 65536 % 256 := by omega
  have e2 : ((v / 256 % 256 : Nat) : Int) = (v : Int) / 256 % 256 := by omega
  have e3 : ((v % 256 : Nat) : Int) = (v : Int) % 256 := by omega
  rw [e0, e1, e2, e3]
set_option maxHeartbeats 800000 in
theorem four_eq (v : Nat) (w : World) (hv : v < 4294967296) : Calls Try.prog 56 #[.int .i64 (v : Int)] w fun e w' =>
    e = .returned (.slice (some ⟨w.heap.size, 0, none⟩) 4 4) ∧ w' = w.alloc (.cells (valsOf (four v) 4).toArray 5) := by
  have HV := hide (four_vals v hv)
  go_enter Try.func56, Try.ntmps56
  go_wp2
  go_ret
  rw [HV.out]
  exact ⟨rfl, rfl⟩
set_option maxHeartbeats 800000 in
theorem num_eq (b off len cap : Nat) (f : Nat → Nat) (w : World) (hl : 4 ≤ len) (hf : ∀ i, i < 4 → f i < 256) (hc : ∀ i, i < 4 → w.cell? ⟨b, off + i, none⟩ = some (.int .u8 (f i : Int))) :
    Calls Try.prog 37 #[.slice (some ⟨b, off, none⟩) len cap] w fun e w' => e = .returned (.int .i64 (num f : Int)) ∧ ∃ k, w' = w.drewN k := by
  have h0 := hf 0 (by omega)
  have h1 := hf 1 (by omega)
  have h2 := hf 2 (by omega)
  have h3 := hf 3 (by omega)
  have c0 := hc 0 (by omega)
  have c1 := hc 1 (by omega)
  have c2 := hc 2 (by omega)
  have c3 := hc 3 (by omega)
  rw [Nat.add_zero] at c0
  have l0 : (0 : Int) < (len : Int) := by omega
  have l1 : (1 : Int) < (len : Int) := by omega
  have l2 : (2 : Int) < (len : Int) := by omega
  have l3 : (3 : Int) < (len : Int) := by omega
  have HN : Hid ((num f : Int) = (f 0 : Int) * 16777216 + (f 1 : Int) * 65536 + (f 2 : Int) * 256 + (f 3 : Int)) := by show ((num f : Nat) : Int) = _; unfold num; omega
  clear hc hf
  generalize f 0 = x0 at *
  generalize f 1 = x1 at *
  generalize f 2 = x2 at *
  generalize f 3 = x3 at *
  go_enter Try.func37, Try.ntmps37
  go_wp2_with fail
  go_quiet (fail)
  go_wp2
  go_ret
  exact ⟨ret_int HN.out.symm, nq, rfl⟩
end Go.Proofs.Ytbecchoidglaeaa
/- An entry in plain numbers: its head, its pages, how many there are. -/
namespace Go.Proofs.Ytbecchoidglaeaa
open Go.RowKit
set_option maxRecDepth 100000

/-- The bytes f 0 .. f (n - 1), then g's. -/
def cat (f : Nat → Nat) (n : Nat) (g : Nat → Nat) : Nat → Nat := fun j => if j < n then f j else g (j - n)
theorem vals_cat (f g : Nat → Nat) (n m : Nat) : valsOf f n ++ valsOf g m = valsOf (cat f n g) (n + m) := by
  apply List.ext_getElem?
  intro j
  by_cases h : j < n
  · rw [List.getElem?_append_left (by rw [valsOf_length]; exact h), valsOf_get _ _ _ h, valsOf_get _ _ _ (by omega)]
    simp [cat, h]
  · rw [List.getElem?_append_right (by rw [valsOf_length]; omega), valsOf_length]
    by_cases h2 : j < n + m
    · rw [valsOf_get _ _ _ (by omega), valsOf_get _ _ _ h2]
      simp [cat, h]
    · rw [List.getElem?_eq_none (by rw [valsOf_length]; omega), List.getElem?_eq_none (by rw [valsOf_length]; omega)]
theorem cat_lt {f g : Nat → Nat} {n m : Nat} (hf : ∀ i, i < n → f i < 256) (hg : ∀ i, i < m → g i < 256) : ∀ i, i < n + m → cat f n g i < 256 := by
  intro i hi
  unfold cat
  split
  · exact hf i (by omega)
  · exact hg _ (by omega)
/-- The twelve bytes of a head that are summed. -/
def head12 (gen len c : Nat) : Nat → Nat := cat (cat (four gen) 4 (four len)) 8 (four c)
/-- The sixteen bytes of a head. -/
def head16 (gen len c : Nat) : Nat → Nat := cat (head12 gen len c) 12 (four (crc (head12 gen len c) 12))
theorem head12_lt (gen len c : Nat) : ∀ i, i < 12 → head12 gen len c i < 256 := cat_lt (n := 8) (m := 4) (cat_lt (n := 4) (m := 4) (fun i _ => four_lt _ i) (fun i _ => four_lt _ i)) (fun i _ => four_lt _ i)
theorem head16_lt (gen len c : Nat) : ∀ i, i < 16 → head16 gen len c i < 256 := cat_lt (n := 12) (m := 4) (head12_lt gen len c) (fun i _ => four_lt _ i)
/-- Page i of an entry of generation gen with the len bytes f. -/
def ent (gen : Nat) (f : Nat → Nat) (len : Nat) : Nat → Nat → Nat
  | 0 => fill (head16 gen len (crc f len)) 16
  | i + 1 => fill (fun j => f (i * 64 + j)) (len - i * 64)
/-- How many pages it has. -/
def cnt (len : Nat) : Nat := 1 + (len + 63) / 64
end Go.Proofs.Ytbecchoidglaeaa
/- Lay in plain numbers: Writes up to the first error, Flush, the head, Flush. -/
namespace Go.Proofs.Ytbecchoidglaeaa
open Go.RowKit
set_option maxRecDepth 100000

/-- A Write of a sector that there is: what is then, and the error. -/
def St.wr (s : St) (i : Nat) (p : Nat → Nat) : St × Nat := if s.power then (s.spent.write i p, 0) else (s.spent, 4)
/-- A Flush. -/
def St.fl (s : St) : St × Nat := if s.power then (s.spent.flush, 0) else (s.spent, 4)
/-- The pages F 1 .. F n are written behind sector at_, up to the first error. -/
def bodies (s : St) (at_ : Nat) (F : Nat → Nat → Nat) : Nat → St × Nat
  | 0 => (s, 0)
  | n + 1 => if (bodies s at_ F n).2 = 0 then (bodies s at_ F n).1.wr (at_ + (n + 1)) (fill (F (n + 1)) 64) else bodies s at_ F n
/-- Lay, where there is room: bodies, Flush, the head, Flush. -/
def St.lay (s : St) (at_ : Nat) (F : Nat → Nat → Nat) (n : Nat) : St × Nat :=
  let r1 := bodies s at_ F (n - 1)
  if r1.2 = 0 then
    let r2 := r1.1.fl
    if r2.2 = 0 then
      let r3 := r2.1.wr at_ (fill (F 0) 64)
      if r3.2 = 0 then r3.1.fl else r3
    else r2
  else r1
theorem wr_n (s : St) (i : Nat) (p : Nat → Nat) : (s.wr i p).1.n = s.n := by unfold St.wr; split <;> rfl
theorem fl_n (s : St) : s.fl.1.n = s.n := by unfold St.fl; split <;> rfl
theorem wr_lo (s : St) (i : Nat) (p : Nat → Nat) : (s.wr i p).1.lo.length ≤ s.lo.length + 1 := by
  unfold St.wr; split
  · simp [St.write, St.spent]
  · simp [St.spent]
theorem fl_lo (s : St) : s.fl.1.lo.length ≤ s.lo.length := by
  unfold St.fl; split
  · simp [St.flush]
  · simp [St.spent]
theorem bodies_n (s : St) (at_ : Nat) (F : Nat → Nat → Nat) : ∀ n, (bodies s at_ F n).1.n = s.n
  | 0 => rfl
  | n + 1 => by
    unfold bodies
    split
    · rw [wr_n, bodies_n s at_ F n]
    · exact bodies_n s at_ F n
theorem bodies_lo (s : St) (at_ : Nat) (F : Nat → Nat → Nat) : ∀ n, (bodies s at_ F n).1.lo.length ≤ s.lo.length + n
  | 0 => Nat.le_refl _
  | n + 1 => by
    have ih := bodies_lo s at_ F n
    unfold bodies
    split
    · have := wr_lo (bodies s at_ F n).1 (at_ + (n + 1)) (fill (F (n + 1)) 64); omega
    · omega
theorem bodies_stuck (s : St) (at_ : Nat) (F : Nat → Nat → Nat) (k : Nat) (h : (bodies s at_ F k).2 ≠ 0) : ∀ n, k ≤ n → bodies s at_ F n = bodies s at_ F k
  | 0, hk => by rw [show k = 0 from by omega]
  | n + 1, hk => by
    by_cases e : k = n + 1
    · rw [e]
    · have ih := bodies_stuck s at_ F k h n (by omega)
      conv => lhs; unfold bodies
      rw [ih, if_neg h]

theorem lay_of_stuck {s : St} {at_ n k : Nat} {F : Nat → Nat → Nat} (hk : k ≤ n - 1) (h : (bodies s at_ F k).2 ≠ 0) : s.lay at_ F n = bodies s at_ F k := by
  unfold St.lay
  rw [bodies_stuck s at_ F k h (n - 1) hk]
  simp only [if_neg h]
/-- The sector behind the entry, or 0. -/
def layNext (r : St × Nat) (at_ n : Nat) : Int := if r.2 = 0 then (at_ : Int) + (n : Int) else 0
end Go.Proofs.Ytbecchoidglaeaa
