/- TrieDefault's walk. -/
import Derived.Test.YtfecknbneonidaaTrAn
import Derived.Test.YtfecknbneonidaaPfxRf
namespace Go.Proofs.Ytfecknbneonidaa
open Go.RowKit
set_option maxRecDepth 100000

theorem long_default (D : Nat) (v : Int) (hD : D < 4294967296) : longC (oneC 0 0 v) D 33 = some (0, v) := by
  have h : ∀ k, longC (oneC 0 0 v) D (k + 1) = some (0, v) := by
    intro k
    induction k with
    | zero => exact longC_some (by rw [cutTo_none D hD]; exact upd_self _ _ _ _)
    | succ k ih => rw [longC_none (by unfold oneC; rw [upd_ne _ _ _ _ _ _ (by omega)]), ih]
  exact h 32
theorem long_over (C : Nat → Nat → Option Int) (D m : Nat) (x : Int) (hm : m ≤ 32) (h : ∀ j, m < j → C (cutTo D j) j = none) : longC (upd C (cutTo D m) m (some x)) D 33 = some (m, x) := by
  have h2 : ∀ k, longC (upd C (cutTo D m) m (some x)) D (m + 1 + k) = some (m, x) := by
    intro k
    induction k with
    | zero => exact longC_some (upd_self _ _ _ _)
    | succ k ih => rw [← Nat.add_assoc, longC_none (by rw [upd_ne _ _ _ _ _ _ (by omega)]; exact h _ (by omega)), ih]
  have := h2 (32 - m)
  rwa [show m + 1 + (32 - m) = 33 from by omega] at this
set_option maxHeartbeats 1600000 in
theorem trieDefault_in (D m : Nat) (q v x : Int) (w : World) (hD : D < 4294967296) (hm : m ≤ 32) (_ : 0 ≤ q) (_ : q < 256) (hqm : q.tmod 33 = (m : Int)) : Calls Try.prog 4 #[.int .u32 (D : Int), .int .u8 q, .int .i64 v, .int .i64 x] w fun e w' => e = .returned (.bool true) ∧ Below w.heap.size w w' := by
  have hs := fun (w1 : World) (h : TrieIs w1 w.heap.size (oneN w.heap.size) (fun _ _ => none)) => set_right 0 0 w.heap.size v w1 _ _ (by omega) (by decide) h
  have hf := fun (w1 : World) (N : Nat → Nat → Option Nat) (h : TrieIs w1 w.heap.size N (oneC 0 0 v)) => find_any D w.heap.size w1 N _ hD h
  rw [long_default D v hD] at hf
  have hs2 := fun (w1 : World) (N : Nat → Nat → Option Nat) (h : TrieIs w1 w.heap.size N (oneC 0 0 v)) => set_right (cutTo D m) m w.heap.size x w1 N _ (cutTo_lt D m hD) (rightB_cut D m hm) h
  have hf2 := fun (w1 : World) (N : Nat → Nat → Option Nat) (h : TrieIs w1 w.heap.size N (upd (oneC 0 0 v) (cutTo D m) m (some x))) => find_any D w.heap.size w1 N _ hD h
  rw [long_over (oneC 0 0 v) D m x hm (fun j hj => by unfold oneC; rw [upd_ne _ _ _ _ _ _ (by omega)])] at hf2
  have HS := hide hs
  have HF := hide hf
  have HS2 := hide hs2
  have HF2 := hide hf2
  clear hs hf hs2 hf2
  go_enter Try.func4, Try.ntmps4
  go_wp2_with fail
  refine (new_any _).mono ?_
  rintro e w1 ⟨rfl, rfl⟩
  have HT := hide (trie_new w 55)
  have HB1 : Hid (Below w.heap.size w (w.alloc (.cells #[.pointer none, .pointer none, .bool false, .int .i64 0] 55))) := (Below.refl _ _).alloc (Nat.le_refl _) _
  generalize w.alloc (.cells #[.pointer none, .pointer none, .bool false, .int .i64 0] 55) = w1 at *
  go_wp2_with fail
  refine (HS.out w1 HT.out).mono ?_
  rintro e w2 ⟨rfl, N2, ht2, hk2, hsub2⟩
  have HB2 : Hid (Below w.heap.size w w2) := HB1.out.trans (hk2.below _ HB1.out.size fun b hb => by obtain ⟨x, y, h⟩ := hb; obtain ⟨_, _, rfl⟩ := oneN_some h; exact Nat.le_refl _)
  have HN2 : Hid (∀ b, Blk N2 b → w.heap.size ≤ b) := fun b hb => by
    rcases hsub2 b hb with h | h
    · obtain ⟨x, y, h⟩ := h; obtain ⟨_, _, rfl⟩ := oneN_some h; exact Nat.le_refl _
    · have := HB1.out.size; omega
  have HT2 : Hid (TrieIs w2 w.heap.size N2 (oneC 0 0 v)) := ht2
  clear ht2 hk2 hsub2
  go_wp2_with fail
  refine (rmake_in D m _ hD hm).mono ?_
  rintro e w3 ⟨rfl, hb3⟩
  have HB3 : Hid (Below w.heap.size w w3) := HB2.out.trans (hb3.mono HB2.out.size)
  have HT3 : Hid (TrieIs w3 w.heap.size N2 (oneC 0 0 v)) := HT2.out.later hb3
  clear hb3
  unfold pfx
  generalize hX : cutTo D m = X at *
  have HT4 : Hid (TrieIs (w3.alloc (.cells #[.int .u32 (X : Int), .int .i64 (m : Int)] 31)) w.heap.size N2 (oneC 0 0 v)) := HT3.out.later ((Below.refl _ _).alloc (Nat.le_refl _) _)
  have HB4 : Hid (Below w.heap.size w (w3.alloc (.cells #[.int .u32 (X : Int), .int .i64 (m : Int)] 31))) := HB3.out.alloc HB3.out.size _
  have c0 : (w3.alloc (.cells #[.int .u32 (X : Int), .int .i64 (m : Int)] 31)).cell? ⟨w3.heap.size, 0, none⟩ = some (.int .u32 (X : Int)) := by simp [go_sem]
  have c1 : (w3.alloc (.cells #[.int .u32 (X : Int), .int .i64 (m : Int)] 31)).cell? ⟨w3.heap.size, 1, none⟩ = some (.int .i64 (m : Int)) := by simp [go_sem]
  have hz4 : w3.heap.size < (w3.alloc (.cells #[.int .u32 (X : Int), .int .i64 (m : Int)] 31)).heap.size := by simp
  have HNX : Hid (¬ Blk N2 w3.heap.size) := fun h => by have := HT3.out.lt _ h; omega
  go_wp2_with fail
  generalize (w3.alloc (.cells #[.int .u32 (X : Int), .int .i64 (m : Int)] 31)) = w4 at *
  refine (HF.out w4 N2 HT4.out).mono ?_
  rintro e w5 ⟨rfl, hb5⟩
  rw [← hb5.cell (p := ⟨w3.heap.size, 0, none⟩) hz4] at c0
  rw [← hb5.cell (p := ⟨w3.heap.size, 1, none⟩) hz4] at c1
  have HB5 : Hid (Below w.heap.size w w5) := HB4.out.trans (hb5.mono HB4.out.size)
  have HT5 : Hid (TrieIs w5 w.heap.size N2 (oneC 0 0 v)) := HT4.out.later hb5
  have hz5 := Nat.lt_of_lt_of_le hz4 hb5.size
  clear hb5 hz4
  unfold pfx
  have hv1 : valL (some (0, v)) = v := rfl
  rw [hv1]
  generalize cutTo D (bitsL (some (0, v))) = Y0
  generalize bitsL (some (0, v)) = Y1
  rw [← World.cell?_alloc_lt w5 (.cells #[.int .u32 (Y0 : Int), .int .i64 (Y1 : Int)] 31) _ (by exact hz5)] at c0 c1
  have HB6 : Hid (Below w.heap.size w (w5.alloc (.cells #[.int .u32 (Y0 : Int), .int .i64 (Y1 : Int)] 31))) := HB5.out.alloc HB5.out.size _
  have HT6 : Hid (TrieIs (w5.alloc (.cells #[.int .u32 (Y0 : Int), .int .i64 (Y1 : Int)] 31)) w.heap.size N2 (oneC 0 0 v)) := HT5.out.later ((Below.refl _ _).alloc (Nat.le_refl _) _)
  have hz6 : w3.heap.size < (w5.alloc (.cells #[.int .u32 (Y0 : Int), .int .i64 (Y1 : Int)] 31)).heap.size := by simp; omega
  go_wp2_with fail
  generalize (w5.alloc (.cells #[.int .u32 (Y0 : Int), .int .i64 (Y1 : Int)] 31)) = w6 at *
  refine (HS2.out w6 N2 HT6.out).mono ?_
  rintro e w7 ⟨rfl, N7, ht7, hk7, _⟩
  rw [← hk7.cell ⟨w3.heap.size, 0, none⟩ hz6 HNX.out] at c0
  rw [← hk7.cell ⟨w3.heap.size, 1, none⟩ hz6 HNX.out] at c1
  have HB7 : Hid (Below w.heap.size w w7) := HB6.out.trans (hk7.below _ HB6.out.size HN2.out)
  have HT7 := hide ht7
  have hz7 := Nat.lt_of_lt_of_le hz6 hk7.size
  clear ht7 hk7 hz6
  go_wp2_with fail
  refine (HF2.out w7 N7 HT7.out).mono ?_
  rintro e w8 ⟨rfl, hb8⟩
  rw [← hb8.cell (p := ⟨w3.heap.size, 0, none⟩) hz7] at c0
  rw [← hb8.cell (p := ⟨w3.heap.size, 1, none⟩) hz7] at c1
  have HB8 : Hid (Below w.heap.size w w8) := HB7.out.trans (hb8.mono HB7.out.size)
  have hz8 := Nat.lt_of_lt_of_le hz7 hb8.size
  clear hb8 hz7
  unfold pfx
  have hv2 : valL (some (m, x)) = x := rfl
  have hb2 : bitsL (some (m, x)) = m := rfl
  rw [hv2, hb2, hX]
  rw [← World.cell?_alloc_lt w8 (.cells #[.int .u32 (X : Int), .int .i64 (m : Int)] 31) _ (by exact hz8)] at c0 c1
  have d0 : (w8.alloc (.cells #[.int .u32 (X : Int), .int .i64 (m : Int)] 31)).cell? ⟨w8.heap.size, 0, none⟩ = some (.int .u32 (X : Int)) := by simp [go_sem]
  have d1 : (w8.alloc (.cells #[.int .u32 (X : Int), .int .i64 (m : Int)] 31)).cell? ⟨w8.heap.size, 1, none⟩ = some (.int .i64 (m : Int)) := by simp [go_sem]
  have HB9 : Hid (Below w.heap.size w (w8.alloc (.cells #[.int .u32 (X : Int), .int .i64 (m : Int)] 31))) := HB8.out.alloc HB8.out.size _
  have hz9 : w8.heap.size < (w8.alloc (.cells #[.int .u32 (X : Int), .int .i64 (m : Int)] 31)).heap.size := by simp
  go_wp2_with fail
  generalize (w8.alloc (.cells #[.int .u32 (X : Int), .int .i64 (m : Int)] 31)) = w9 at *
  refine (answers_any _).mono ?_
  rintro e w10 ⟨rfl, hb10⟩
  rw [← hb10.cell (p := ⟨w3.heap.size, 0, none⟩) (by simp; omega)] at c0
  rw [← hb10.cell (p := ⟨w3.heap.size, 1, none⟩) (by simp; omega)] at c1
  rw [← hb10.cell (p := ⟨w8.heap.size, 0, none⟩) hz9] at d0
  rw [← hb10.cell (p := ⟨w8.heap.size, 1, none⟩) hz9] at d1
  have HB10 : Hid (Below w.heap.size w w10) := HB9.out.trans (hb10.mono HB9.out.size)
  clear hb10
  go_wp2
  go_ret
  exact ⟨rfl, HB10.out⟩
theorem trieDefault_walk (a n v x : Int) (ha : (Lit.int .u32 a).wf = true) (hn : (Lit.int .u8 n).wf = true) (_ : (Lit.int .i64 v).wf = true) (_ : (Lit.int .i64 x).wf = true) (w : World) :
    Calls Try.prog 4 #[.int .u32 a, .int .u8 n, .int .i64 v, .int .i64 x] w fun e w' => e = .returned (.bool true) ∧ Below w.heap.size w w' := by
  have h1 := bounds_u32 ha
  have h2 := bounds_u8 hn
  obtain ⟨D, rfl⟩ := Int.eq_ofNat_of_zero_le (show 0 ≤ a by omega)
  have h3 := Int.tmod_lt_of_pos n (show (0 : Int) < 33 by omega)
  have h4 := Int.tmod_nonneg 33 (show 0 ≤ n by omega)
  exact trieDefault_in D (n.tmod 33).toNat n v x w (by omega) (by omega) (by omega) (by omega) (by omega)
end Go.Proofs.Ytfecknbneonidaa
