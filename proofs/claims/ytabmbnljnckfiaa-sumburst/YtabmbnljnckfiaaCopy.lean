/- A copy of a row of bytes that append makes: it lies in the call's own memory, can be written, and holds the same bytes. -/
import Derived.Test.YtabmbnljnckfiaaWalks
import Derived.OwnWalk
namespace Go.Proofs.Ytabmbnljnckfiaa
open Go.RowKit

theorem hide {p : Prop} (h : p) : Hid p := h

theorem Try.info5 : (Try.prog.info? 5).map (fun i => (i.zero, i.size, i.bytes)) = some (some (.int .u8 0), 1, 1) := by kernel_rfl

/-- The bytes as values. -/
def valsOf (f : Nat → Nat) (n : Nat) : List Value := (List.range n).map fun i => Value.int .u8 (f i : Int)
theorem valsOf_length (f : Nat → Nat) (n : Nat) : (valsOf f n).length = n := by simp [valsOf]
theorem valsOf_get (f : Nat → Nat) (n i : Nat) (h : i < n) : (valsOf f n)[i]? = some (Value.int .u8 (f i : Int)) := by
  simp [valsOf, h]
theorem valsOf_one (f : Nat → Nat) (n : Nat) : ∀ u ∈ valsOf f n, u.oneCell' = true := by
  intro u hu
  obtain ⟨i, _, rfl⟩ := List.mem_map.1 hu
  rfl
theorem valsOf_at (f : Nat → Nat) (n b off : Nat) (w : World) (hc : ∀ i, i < n → w.cell? ⟨b, off + i, none⟩ = some (.int .u8 (f i : Int))) :
    ∀ j u, (valsOf f n)[j]? = some u → w.cell? ((⟨b, off, none⟩ : Addr).add j) = some u := by
  intro j u hu
  have hj : j < n := by
    have := (List.getElem?_eq_some_iff.1 hu).1
    rwa [valsOf_length] at this
  rw [valsOf_get f n j hj] at hu
  rw [← hu, ← hc j hj]
  by_cases e0 : j = 0
  · subst e0; simp [Addr.add]
  · simp [Addr.add, e0]
theorem empty_own (w : World) : (w.alloc (.cells #[] 5)).ownsRow w.heap.size 5 1 (.slice (some ⟨w.heap.size, 0, none⟩) 0 0) 0 [] := by
  refine ⟨rfl, .inr ⟨w.heap.size, 0, #[], rfl, Nat.le_refl _, ?_, Nat.le_refl _, Nat.zero_le _, rfl, rfl⟩⟩
  show (w.heap.push (.cells #[] 5))[w.heap.size]? = _
  simp
/-- What is known of the copy. -/
theorem copy_facts {w w1 : World} {v : Value} {f : Nat → Nat} {n : Nat} (hn : 0 < n) (hown : w1.ownsRow w.heap.size 5 1 v (0 + n) ([] ++ valsOf f n))
    (hg : (w.alloc (.cells #[] 5)).grownBy w1 (Value.slice (some ⟨w.heap.size, 0, none⟩) 0 0).ownBlock) :
    ∃ g cap, v = .slice (some ⟨g, 0, none⟩) n cap ∧ w.heap.size ≤ g ∧ (∀ i, i < n → w1.cell? ⟨g, i, none⟩ = some (.int .u8 (f i : Int))) ∧ (∀ i, w1.frozen? ⟨g, i, none⟩ = false) ∧ Below w.heap.size w w1 := by
  simp only [Nat.zero_add, List.nil_append] at hown
  have hown' := hown
  obtain ⟨_, h | ⟨g, cap, cur, rfl, hb, _⟩⟩ := hown
  · omega
  · refine ⟨g, cap, rfl, hb, fun i hi => ?_, fun i => hown'.frozenAt i, ?_⟩
    · rw [hown'.cellAt i (by omega), valsOf_get f n i hi]
    · refine Below.grown ((Below.refl _ _).alloc (Nat.le_refl _) _) hg (by simp) ?_
      intro k hk
      simp [Value.ownBlock] at hk
      omega
/-- The bytes f, but x at place k. -/
def putAt (f : Nat → Nat) (k x : Nat) : Nat → Nat := fun i => if i = k then x else f i
theorem cells_set {w1 : World} {g n k : Nat} {f : Nat → Nat} (x : Nat) (hk : k < n)
    (hc : ∀ i, i < n → w1.cell? ⟨g, i, none⟩ = some (.int .u8 (f i : Int))) :
    ∀ i, i < n → (w1.setCell ⟨g, k, none⟩ (.int .u8 (x : Int))).cell? ⟨g, i, none⟩ = some (.int .u8 (putAt f k x i : Int)) := by
  intro i hi
  unfold putAt
  by_cases e : i = k
  · subst e
    rw [World.cell?_setCell_same _ _ _ (hc i hi), if_pos rfl]
  · rw [World.cell?_setCell_other _ _ _ _ (by intro h; injection h with _ h2 _; omega), if_neg e]
    exact hc i hi
theorem putAt_lt {f : Nat → Nat} {n k x : Nat} (hf : ∀ i, i < n → f i < 256) (hx : x < 256) : ∀ i, i < n → putAt f k x i < 256 := by
  intro i hi
  unfold putAt
  split
  · exact hx
  · exact hf i hi
theorem row_mk {w : World} {g n : Nat} {f : Nat → Nat} (hn : n ≤ 1000) (hf : ∀ i, i < n → f i < 256) (hc : ∀ i, i < n → w.cell? ⟨g, i, none⟩ = some (.int .u8 (f i : Int))) :
    Row w (some ⟨g, 0, none⟩) n f := by
  refine ⟨by unfold maxLen; omega, hf, fun _ => ⟨g, 0, rfl, fun i hi => ?_⟩⟩
  rw [Nat.zero_add]
  exact hc i hi
theorem xor_u8 (a t : Nat) (ha : a < 256) (ht : t < 256) : bits .xor .u8 (a : Int) (t : Int) = ((a ^^^ t : Nat) : Int) := u8_xor_nat a t ha ht
theorem xor_lt8 {a t : Nat} (ha : a < 256) (ht : t < 256) : a ^^^ t < 256 := Nat.xor_lt_two_pow (n := 8) ha ht
theorem crc_ne {f h : Nat → Nat} {n : Nat} (hd : crcUpto f n ≠ crcUpto h n) : (((crc f n : Nat) : Int) != ((crc h n : Nat) : Int)) = true := by
  rw [bne_iff_ne]
  intro e
  exact hd (xor_left_inj' (c := 4294967295) (Int.ofNat.inj e))
/-- The bytes f, of which m from place k on are turned by t's bytes, the lowest first. -/
def turned (f : Nat → Nat) (k t m : Nat) : Nat → Nat := fun i => if k ≤ i ∧ i < k + m then f i ^^^ (t / 2 ^ (8 * (i - k)) % 256) else f i
theorem turned_zero (f : Nat → Nat) (k t : Nat) : turned f k t 0 = f := by
  funext i; unfold turned; rw [if_neg (by omega)]
theorem turned_succ (f : Nat → Nat) (k t m : Nat) : turned f k t (m + 1) = putAt (turned f k t m) (k + m) (f (k + m) ^^^ (t / 2 ^ (8 * m) % 256)) := by
  funext i
  unfold putAt turned
  by_cases e : i = k + m
  · subst e
    rw [if_pos (by omega), if_pos rfl, show k + m - k = m from by omega]
  · rw [if_neg e]
    by_cases h : k ≤ i ∧ i < k + m
    · rw [if_pos h, if_pos (by omega)]
    · rw [if_neg h, if_neg (by omega)]
theorem turned_at (f : Nat → Nat) (k t m : Nat) : turned f k t m (k + m) = f (k + m) := by
  unfold turned; rw [if_neg (by omega)]
theorem turned_lt {f : Nat → Nat} {k t m n : Nat} (hf : ∀ i, i < n → f i < 256) : ∀ i, i < n → turned f k t m i < 256 := by
  intro i hi
  unfold turned
  split
  · exact xor_lt8 (hf i hi) (Nat.mod_lt _ (by decide))
  · exact hf i hi
theorem xor_turn (a t m : Nat) (ha : a < 256) : bits .xor .u8 (a : Int) ((t : Int) / 2 ^ (8 * m) % 256) = ((a ^^^ (t / 2 ^ (8 * m) % 256) : Nat) : Int) := by
  have h := xor_u8 a (t / 2 ^ (8 * m) % 256) ha (Nat.mod_lt _ (by decide))
  rw [← h]
  congr 1
theorem crc_burst (f : Nat → Nat) (k n t : Nat) (hk : k + 4 ≤ n) (hf : ∀ i, i < n → f i < 256) (ht : t < 4294967296) (h0 : t ≠ 0) :
    crcUpto f n ≠ crcUpto (turned f k t 4) n := by
  have e : ∀ j, j < 4 → turned f k t 4 (k + j) = f (k + j) ^^^ (t / 2 ^ (8 * j) % 256) := by
    intro j hj
    unfold turned
    rw [if_pos (by omega), show k + j - k = j from by omega]
  have b : ∀ j, t / 2 ^ (8 * j) % 256 < 256 := fun j => Nat.mod_lt _ (by decide)
  refine crc_four f _ k n (t / 2 ^ (8 * 0) % 256) (t / 2 ^ (8 * 1) % 256) (t / 2 ^ (8 * 2) % 256) (t / 2 ^ (8 * 3) % 256) hk hf (turned_lt hf) (fun i hi => ?_) (b 0) (b 1) (b 2) (b 3) (e 0 (by omega)) (e 1 (by omega)) (e 2 (by omega)) (e 3 (by omega)) ?_
  · unfold turned; rw [if_neg (by omega)]
  · simp only [Nat.mul_zero, Nat.pow_zero, Nat.div_one, Nat.reduceMul, Nat.reducePow]
    omega
end Go.Proofs.Ytabmbnljnckfiaa
