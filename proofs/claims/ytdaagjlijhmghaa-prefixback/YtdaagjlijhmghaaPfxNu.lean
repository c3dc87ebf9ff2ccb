/- The document's Num, Four and ReadPrefixes. -/
import Derived.Test.YtdaagjlijhmghaaPfxDe
import Derived.Deep.QuietTactic
import Derived.BigQuiet
namespace Go.Proofs.Ytdaagjlijhmghaa
open Go.RowKit
set_option maxRecDepth 100000

/-- The number of four bytes. -/
def num (f : Nat → Nat) : Nat := f 0 * 16777216 + f 1 * 65536 + f 2 * 256 + f 3
theorem num_up (f : Nat → Nat) : num f = numUp f 0 4 := by
  simp only [num, numUp, Nat.zero_add, Nat.sub_zero, Nat.reduceSub, Nat.reduceMul, Nat.reducePow, Nat.mul_one, Nat.add_zero]
set_option maxHeartbeats 800000 in
theorem num_eq (b off len cap : Nat) (f : Nat → Nat) (w : World) (hl : 4 ≤ len) (hf : ∀ i, i < 4 → f i < 256) (hc : ∀ i, i < 4 → w.cell? ⟨b, off + i, none⟩ = some (.int .u8 (f i : Int))) :
    Calls Try.prog 33 #[.slice (some ⟨b, off, none⟩) len cap] w fun e w' => e = .returned (.int .i64 (num f : Int)) ∧ ∃ k, w' = w.drewN k := by
  have h0 := hf 0 (by omega)
  have h1 := hf 1 (by omega)
  have h2 := hf 2 (by omega)
  have h3 := hf 3 (by omega)
  have c0 := hc 0 (by omega)
  have c1 := hc 1 (by omega)
  have c2 := hc 2 (by omega)
  have c3 := hc 3 (by omega)
  rw [Nat.add_zero] at c0
  have l0 : (0 : Int) < (len : Int) := by omega
  have l1 : (1 : Int) < (len : Int) := by omega
  have l2 : (2 : Int) < (len : Int) := by omega
  have l3 : (3 : Int) < (len : Int) := by omega
  have HN : Hid ((num f : Int) = (f 0 : Int) * 16777216 + (f 1 : Int) * 65536 + (f 2 : Int) * 256 + (f 3 : Int)) := by show ((num f : Nat) : Int) = _; unfold num; omega
  clear hc hf
  generalize f 0 = x0 at *
  generalize f 1 = x1 at *
  generalize f 2 = x2 at *
  generalize f 3 = x3 at *
  go_enter Try.func33, Try.ntmps33
  go_wp2_with fail
  go_quiet (fail)
  go_wp2
  go_ret
  exact ⟨ret_int HN.out.symm, nq, rfl⟩
/-- k bytes from place j on, then noughts. -/
def padded (f : Nat → Nat) (j k : Nat) : Nat → Nat := fun q => if q < k then f (j + q) else 0
theorem numUp_pad (f : Nat → Nat) (j k : Nat) : ∀ d, numUp (padded f j k) 0 (k + d) = numUp f j k
  | 0 => numUp_congr _ _ _ _ _ (fun q hq => by show padded f j k (0 + q) = _; rw [Nat.zero_add]; unfold padded; rw [if_pos (by omega)])
  | d + 1 => by
    show numUp (padded f j k) 0 (k + d) + padded f j k (0 + (k + d)) * _ = _
    rw [numUp_pad f j k d]
    have : padded f j k (0 + (k + d)) = 0 := by unfold padded; rw [if_neg (by omega)]
    rw [this, Nat.zero_mul, Nat.add_zero]
theorem num_pad (f : Nat → Nat) (j k : Nat) (hk : k ≤ 4) : num (padded f j k) = numUp f j k := by
  rw [num_up, show 4 = k + (4 - k) from by omega, numUp_pad]
/-- The bytes of a row, as a list. -/
def listOf (f : Nat → Nat) (j k : Nat) : List Nat := (List.range k).map fun q => f (j + q)
theorem listOf_get (f : Nat → Nat) (j k q : Nat) (h : q < k) : (bcells (listOf f j k))[q]? = some (.int .u8 (f (j + q) : Int)) := by simp [bcells, listOf, h]
theorem pad_get (f : Nat → Nat) (j s q : Nat) (hq : q < 4) : (([] ++ bcells (listOf f j s)) ++ [Value.int .u8 0, .int .u8 0, .int .u8 0, .int .u8 0])[q]? = some (.int .u8 (padded f j s q : Int)) := by
  have hl : (bcells (listOf f j s)).length = s := by rw [bcells_length]; simp [listOf]
  rw [List.nil_append]
  unfold padded
  by_cases h : q < s
  · rw [List.getElem?_append_left (by omega), listOf_get _ _ _ _ h, if_pos h]
  · rw [List.getElem?_append_right (by omega), hl, if_neg h]
    have : q - s = 0 ∨ q - s = 1 ∨ q - s = 2 ∨ q - s = 3 := by omega
    rcases this with e | e | e | e <;> rw [e] <;> rfl
theorem read_four (wr : World) (ad : Addr) (s cp j : Nat) (f : Nat → Nat) (hs : s ≤ 1000) (hc : ∀ q, q < s → wr.cell? (ad.add q) = some (.int .u8 (f (j + q) : Int))) :
    ∃ v2 w2 g3 cap3 w3, (Builtin.append_ #[34, 34] 34 #[.slice (some ⟨wr.heap.size, 0, none⟩) 0 0, .slice (some ad) s cp]).run Try.prog (wr.alloc (.cells #[] 5)) = .ok v2 w2 ∧
      (Builtin.append_ #[34, 34] 34 #[v2, .slice (some ⟨w2.heap.size, 0, none⟩) 4 4]).run Try.prog (w2.alloc (.cells #[.int .u8 0, .int .u8 0, .int .u8 0, .int .u8 0] 5)) = .ok (.slice (some ⟨g3, 0, none⟩) (s + 4) cap3) w3 ∧
      (∀ q, q < 4 → w3.cell? ⟨g3, 0 + q, none⟩ = some (.int .u8 (padded f j s q : Int))) ∧ Below wr.heap.size wr w3 := by
  have hown := World.ownsRow_lit (base := wr.heap.size) (e := 5) (size := 1) wr #[] 0 (Nat.le_refl _) (by unfold maxLen; omega) rfl
  obtain ⟨v2, w2, hrun2, hown2, hb2⟩ := app_old elemU8 hown (by simp) ad s cp (bcells (listOf f j s)) (by rw [bcells_length]; simp [listOf]) (fun q u hu => by
    have hq : q < s := by
      have := (List.getElem?_eq_some_iff.1 hu).1
      rw [bcells_length] at this
      simpa [listOf] using this
    rw [listOf_get _ _ _ _ hq] at hu
    rw [World.cell?_alloc_lt _ _ _ (World.block_lt_of_cell? wr _ (hc q hq)), hc q hq, hu]) (bcells_one _) (by omega)
  have hb2' : Below wr.heap.size wr w2 := ((Below.refl _ _).alloc (Nat.le_refl _) _).trans hb2
  obtain ⟨v3, w3, hrun3, hown3, hb3⟩ := app_new elemU8 hown2 hb2'.size 4 [.int .u8 0, .int .u8 0, .int .u8 0, .int .u8 0] rfl (by simp [Value.oneCell']) (by omega) w2.heap.size rfl
  rw [Nat.zero_add] at hown3
  obtain ⟨g3, cap3, rfl, _, _⟩ := hown3.form (by omega)
  exact ⟨v2, w2, g3, cap3, w3, hrun2, hrun3, fun q hq => by rw [Nat.zero_add, hown3.cellAt q (by omega)]; exact pad_get f j s q hq, hb2'.trans hb3⟩
theorem read_if (b off cap len i s : Nat) (f : Nat → Nat) (wr : World) (hs : s ≤ 1000) (hlc : len ≤ cap) (ho : i + 1 + s ≤ len) (hc : ∀ j, j < len → wr.cell? ⟨b, off + j, none⟩ = some (.int .u8 (f j : Int))) :
    ∃ v2 w2 g3 cap3 w3, (Builtin.append_ #[34, 34] 34 #[.slice (some ⟨wr.heap.size, 0, none⟩) 0 0, .slice (if cap = i + 1 then some ⟨b, off, none⟩ else some ⟨b, off + (i + 1), none⟩) (i + 1 + s - (i + 1)) (cap - (i + 1))]).run Try.prog (wr.alloc (.cells #[] 5)) = .ok v2 w2 ∧
      (Builtin.append_ #[34, 34] 34 #[v2, .slice (some ⟨w2.heap.size, 0, none⟩) 4 4]).run Try.prog (w2.alloc (.cells #[.int .u8 0, .int .u8 0, .int .u8 0, .int .u8 0] 5)) = .ok (.slice (some ⟨g3, 0, none⟩) (s + 4) cap3) w3 ∧
      (∀ q, q < 4 → w3.cell? ⟨g3, 0 + q, none⟩ = some (.int .u8 (padded f (i + 1) s q : Int))) ∧ Below wr.heap.size wr w3 := by
  rw [show i + 1 + s - (i + 1) = s from by omega]
  by_cases h : cap = i + 1
  · rw [if_pos h]
    exact read_four wr ⟨b, off, none⟩ s (cap - (i + 1)) (i + 1) f hs (fun q hq => absurd hq (by omega))
  · rw [if_neg h]
    exact read_four wr ⟨b, off + (i + 1), none⟩ s (cap - (i + 1)) (i + 1) f hs (fun q hq => by rw [Addr.add_mid, Nat.add_assoc]; exact hc (i + 1 + q) (by omega))
set_option maxHeartbeats 3200000 in
theorem read_some (b off len cap : Nat) (f : Nat → Nat) (w : World) (hl : len ≤ 100000) (hlc : len ≤ cap) (hf : ∀ j, j < len → f j < 256) (hcell : ∀ j, j < len → w.cell? ⟨b, off + j, none⟩ = some (.int .u8 (f j : Int))) :
    Calls Try.prog 21 #[.slice (some ⟨b, off, none⟩) len cap] w fun e w' => DecRes w w' (decRun f len 0 []) e ∧ Below w.heap.size w w' := by
  have HC := hide hcell
  have HF := hide hf
  clear hcell hf
  go_enter Try.func21, Try.ntmps21
  go_wp2
  go_loopw [4, 5] (fun v s wq => ∃ (i : Nat) (acc : List (Nat × Nat)), s = .int .i64 (i : Int) ∧ i ≤ len ∧ Hid (wq.ownsRow w.heap.size 24 2 v acc.length (pcells acc)) ∧ Hid (Below w.heap.size w wq) ∧ Hid (decRun f len 0 [] = decRun f len i acc) ∧ acc.length ≤ i) (fun _ s _ => len - (intOf s).toNat)
  case atStart => exact ⟨0, [], rfl, Nat.zero_le _, own_nil _ _ _ _, Below.refl _ _, rfl, Nat.le_refl _⟩
  case round =>
    obtain ⟨i, acc, rfl, hi, HO, HB, HE, hal⟩ := hrel
    by_cases hlt : i < len
    · have hcw : Hid (∀ j, j < len → wr.cell? ⟨b, off + j, none⟩ = some (.int .u8 (f j : Int))) := fun j hj => by
        rw [(Keeps.of_below HB.out (fun _ => False)).cell _ (World.block_lt_of_cell? w _ (HC.out j hj)) (fun h => h)]
        exact HC.out j hj
      have hci := hcw.out i hlt
      have hfi := HF.out i hlt
      have hi0 : (0 : Int) ≤ (i : Int) := Int.natCast_nonneg _
      have hi1 : (i : Int) < (len : Int) := by omega
      cases hk : okAt f len i with
      | false =>
        have HN : Hid (decRun f len 0 [] = none) := by show decRun f len 0 [] = none; rw [HE.out, decRun_no hlt hk]
        have hok := of_decide_eq_false hk
        clear hk
        unfold szOf at hok
        generalize f i = n at *
        by_cases h32 : 32 < n
        · have i32 : (32 : Int) < (n : Int) := by omega
          clear hok h32
          go_wp2
          go_ret2
          exact ⟨by rw [HN.out]; rfl, HB.out⟩
        · have d32 : decide ((32 : Int) < (n : Int)) = false := decide_eq_false (by omega)
          have hs : (len : Int) < (i : Int) + 1 + ((n : Int) + 7) / 8 := by omega
          clear hok h32
          go_wp2
          go_ret2
          exact ⟨by rw [HN.out]; rfl, HB.out⟩
      | true =>
        obtain ⟨ho1, ho2⟩ := of_decide_eq_true hk
        have HE1 : Hid (decRun f len 0 [] = decRun f len (i + 1 + szOf (f i)) (acc ++ [itemAt f i])) := by show decRun f len 0 [] = _; rw [HE.out, decRun_go hlt hk]
        have HIT : Hid (itemAt f i = (cutTo (num (padded f (i + 1) (szOf (f i)))) (f i), f i)) := by show itemAt f i = _; rw [num_pad _ _ _ (szOf_le _ ho1)]; rfl
        clear hk HE
        have hs4 := szOf_le _ ho1
        have hse : ((f i : Int) + 7) / 8 = ((szOf (f i) : Nat) : Int) := by unfold szOf; omega
        have HPF : Hid (∀ q, q < 4 → padded f (i + 1) (szOf (f i)) q < 256) := fun q _ => by
          unfold padded
          split
          · exact HF.out _ (by omega)
          · omega
        generalize hit : itemAt f i = it at *
        clear hit
        generalize hn : f i = n at *
        clear hn
        generalize hs : szOf n = s at *
        clear hs
        have hx : num (padded f (i + 1) s) < 4294967296 := by
          rw [num_pad _ _ _ hs4]
          exact numUp_lt32 f (i + 1) s hs4 (fun q hq => HF.out _ (by omega))
        have d32 : decide ((32 : Int) < (n : Int)) = false := decide_eq_false (by omega)
        have ds : decide ((len : Int) < (i : Int) + 1 + (s : Int)) = false := decide_eq_false (by omega)
        have b1 : (i : Int) + 1 + (s : Int) ≤ (cap : Int) := by omega
        have HX := hide hx
        clear hx
        obtain ⟨v2, w2, g3, cap3, w3, hR2, hR3, hN3, hg3⟩ := read_if b off cap len i s f wr (by omega) hlc ho2 hcw.out
        have HR2 := hide hR2
        have HR3 := hide hR3
        have HN3 := hide hN3
        have HO3 := hide (own_later HO.out hg3)
        have HB3 : Hid (Below w.heap.size w w3) := HB.out.trans (hg3.mono HB.out.size)
        clear hg3 hR2 hR3 hN3 HO HB
        go_wp2_with (first
          | ((with_reducible refine wpl_append _ _ 34 (.slice (some ⟨wr.heap.size, 0, none⟩) 0 0) (.slice (if cap = i + 1 then some ⟨b, off, none⟩ else some ⟨b, off + (i + 1), none⟩) (i + 1 + s - (i + 1)) (cap - (i + 1))) _ ?_ ?_ HR2.out ?_); (· rfl); (· rfl); (generalize (if cap = i + 1 then some (⟨b, off, none⟩ : Addr) else some ⟨b, off + (i + 1), none⟩) = q42))
          | ((with_reducible refine wpl_append _ _ 34 v2 (.slice (some ⟨w2.heap.size, 0, none⟩) 4 4) _ ?_ ?_ HR3.out ?_); (· rfl); (· rfl)))
        refine (num_eq g3 0 (s + 4) cap3 _ w3 (by omega) HPF.out HN3.out).mono ?_
        rintro e w4 ⟨rfl, k4, rfl⟩
        have HB4 := hide (below_drewN HB3.out k4)
        have HO4 := hide (own_later HO3.out (below_drewN (Below.refl _ _) k4))
        generalize w3.drewN k4 = w4 at *
        clear HB3 HO3 HN3 HR2 HR3
        generalize num (padded f (i + 1) s) = x at *
        have hx := HX.out
        go_wp2_with fail
        refine (rmake_in x n _ HX.out ho1).mono ?_
        rintro e w5 ⟨rfl, hb5⟩
        unfold pfx
        have HB5 : Hid (Below w.heap.size w w5) := HB4.out.trans (hb5.mono HB4.out.size)
        have HO5 := hide (own_later HO4.out hb5)
        clear hb5 HB4 HO4
        generalize cutTo x n = A at *
        obtain ⟨v6, w6, hrun6, hown6, hb6⟩ := app_new elemPfx (w := w5.alloc (.cells #[.int .u32 (A : Int), .int .i64 (n : Int)] 24)) (HO5.out.alloc _) (by simp; have := HB5.out.size; omega) 1 [.int .u32 (A : Int), .int .i64 (n : Int)] rfl (by simp [Value.oneCell']) (by omega) (w5.heap.size + 1) (by simp)
        have HR6 := hide hrun6
        have HO6 : Hid (w6.ownsRow w.heap.size 24 2 v6 (acc ++ [(A, n)]).length (pcells (acc ++ [(A, n)]))) := by
          show w6.ownsRow _ _ _ _ _ _
          rw [pcells_snoc, List.length_append]
          exact hown6
        have HB6 : Hid (Below w.heap.size w w6) := (HB5.out.alloc HB5.out.size _).trans hb6
        clear hrun6 hown6 hb6 HO5 HB5
        go_wp2_with ((with_reducible refine wpl_append _ _ 33 _ (.slice (some ⟨w5.heap.size + 1, 0, none⟩) 1 1) _ ?_ ?_ HR6.out ?_); (· rfl); (· rfl))
        exact ⟨⟨i + 1 + s, acc ++ [(A, n)], by go_num, ho2, HO6, HB6, by rw [← HIT.out]; exact HE1, by simp; omega⟩, by simp [intOf]; omega⟩
    · have HN : Hid (decRun f len 0 [] = some acc) := by show decRun f len 0 [] = some acc; rw [HE.out, decRun_end hlt]
      go_wp2
      go_ret2
      exact ⟨by rw [HN.out]; exact ⟨_, rfl, HO.out⟩, HB.out⟩
end Go.Proofs.Ytdaagjlijhmghaa
