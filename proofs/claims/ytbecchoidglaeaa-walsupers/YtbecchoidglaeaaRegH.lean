/- The program's region: appendNumber, head. -/
import Derived.Test.YtbecchoidglaeaaRegS
import Derived.Test.YtbecchoidglaeaaApp
namespace Go.Proofs.Ytbecchoidglaeaa
open Go.RowKit
set_option maxRecDepth 100000

/-- The bytes p, from place n on the four of q. -/
def put4 (p : Nat → Nat) (n : Nat) (q : Nat → Nat) : Nat → Nat := fun j => if n ≤ j ∧ j < n + 4 then q (j - n) else p j
/-- Block g is 64 bytes p of its own. -/
def Sheet (w : World) (g : Nat) (p : Nat → Nat) : Prop := w.heap[g]? = some (.cells (valsOf p 64).toArray 5 (0, 0))
theorem vals_put4 (p q : Nat → Nat) (n : Nat) (hn : n + 4 ≤ 64) : (valsOf p 64).take n ++ valsOf q 4 ++ (valsOf p 64).drop (n + 4) = valsOf (put4 p n q) 64 := by
  apply List.ext_getElem?
  intro j
  by_cases h64 : j < 64
  · rw [valsOf_get _ _ _ h64]
    unfold put4
    by_cases h1 : j < n
    · rw [if_neg (by omega), List.getElem?_append_left (by simp [valsOf_length]; omega), List.getElem?_append_left (by simp [valsOf_length]; omega), List.getElem?_take, if_pos h1, valsOf_get _ _ _ h64]
    · by_cases h2 : j < n + 4
      · rw [if_pos ⟨by omega, h2⟩, List.getElem?_append_left (by simp [valsOf_length]; omega), List.getElem?_append_right (by simp [valsOf_length]; omega)]
        simp only [List.length_take, valsOf_length, show min n 64 = n from by omega]
        rw [valsOf_get _ _ _ (by omega)]
      · rw [if_neg (by omega), List.getElem?_append_right (by simp [valsOf_length]; omega)]
        simp only [List.length_append, List.length_take, valsOf_length, show min n 64 = n from by omega, List.getElem?_drop]
        rw [show n + 4 + (j - (n + 4)) = j from by omega, valsOf_get _ _ _ h64]
  · rw [List.getElem?_eq_none (by simp [valsOf_length]; omega), List.getElem?_eq_none (by rw [valsOf_length]; omega)]
theorem run_app4 (w : World) (g n : Nat) (p q : Nat → Nat) (C : Array Value) (hC : (valsOf q 4).toArray = C) (hg : Sheet w g p) (hn : n + 4 ≤ 64) :
    ∃ w', (Builtin.append_ #[37, 37] 37 #[.slice (some ⟨g, 0, none⟩) n 64, .slice (some ⟨w.heap.size, 0, none⟩) 4 4]).run Try.prog (w.alloc (.cells C 5)) = .ok (.slice (some ⟨g, 0, none⟩) (n + 4) 64) w' ∧
      Sheet w' g (put4 p n q) ∧ Keeps (fun b => b = g) w w' := by
  subst hC
  obtain ⟨i0, hi0, hz0, hz1, hz2⟩ := info_parts Try.infoU8
  have hlt : g < w.heap.size := by
    rcases Nat.lt_or_ge g w.heap.size with h | h
    · exact h
    · have := hg; unfold Sheet at this; rw [Array.getElem?_eq_none h] at this; cases this
  have hg' : (w.alloc (.cells (valsOf q 4).toArray 5)).heap[g]? = some (.cells (valsOf p 64).toArray 5 (0, 0)) := by rw [heap_alloc_old w _ hlt]; exact hg
  have hr := run_append_room (P := Try.prog) (w.alloc (.cells (valsOf q 4).toArray 5)) 37 37 5 i0 Try.underlying37 hi0 g n 64 (valsOf p 64).toArray hg' ⟨w.heap.size, 0, none⟩ 4 4 (valsOf q 4) (by rw [valsOf_length, hz1])
    (fun j u hu => by
      have hj : j < 4 := by simpa [valsOf_length] using (List.getElem?_eq_some_iff.1 hu).1
      rw [Addr.add_mid, World.cell?_alloc_mark, ← hu, Nat.zero_add]
      simp) (valsOf_one q 4) hn (by rw [hz1, valsOf_length]; simp [valsOf_length]; omega)
  refine ⟨_, hr, ?_, ?_⟩
  · unfold Sheet
    rw [setRow_heap _ g _ _ _ _ hg', hz1, valsOf_length, Nat.mul_one]
    show some (Obj.cells ((valsOf p 64).take n ++ valsOf q 4 ++ (valsOf p 64).drop (n + 4)).toArray _ _) = _
    rw [vals_put4 p q n hn]
  · have h1 : Keeps (fun b => b = g) w (w.alloc (.cells (valsOf q 4).toArray 5)) := (Keeps.refl _ w).alloc _
    refine ⟨h1.os, h1.tape, h1.output, by simp, fun k hk hn2 => ?_⟩
    rw [setRow_other _ g k _ hn2, heap_alloc_old w _ hk]
set_option maxHeartbeats 800000 in
theorem appN_any (w : World) (g n : Nat) (p : Nat → Nat) (x : Nat) (hx : x < 4294967296) (hg : Sheet w g p) (hn : n + 4 ≤ 64) :
    Calls Try.prog 75 #[.slice (some ⟨g, 0, none⟩) n 64, .int .u32 (x : Int)] w fun e w' => e = .returned (.slice (some ⟨g, 0, none⟩) (n + 4) 64) ∧ Sheet w' g (put4 p n (four x)) ∧ Keeps (fun b => b = g) w w' := by
  obtain ⟨w1, hr, hs, hk⟩ := run_app4 w g n p (four x) _ (four_vals x hx) hg hn
  have HR := hide hr
  have HS := hide hs
  have HK := hide hk
  clear hr hs hk hg
  go_enter Try.func75, Try.ntmps75
  go_wp2_with ((with_reducible refine wpl_append _ _ 37 _ (.slice (some ⟨w.heap.size, 0, none⟩) 4 4) _ ?_ ?_ HR.out ?_); (· rfl); (· rfl))
  go_ret
  exact ⟨rfl, HS.out, HK.out⟩
theorem run_make_room (w : World) : (Instr.makeSlice 37 (.int .i64 0) (.int .i64 64)).run Try.prog w =
    .ok (.slice (some ⟨w.heap.size, 0, none⟩) 0 64) (w.alloc (.cells (valsOf (fun _ => 0) 64).toArray 5)) := by
  obtain ⟨i0, hi0, hz0, hz1, hz2⟩ := info_parts Try.infoU8
  have := run_make (P := Try.prog) w 37 5 i0 _ Try.underlying37 hi0 hz0 .i64 .i64 0 64 (by omega) (by omega) (by rw [hz2]; omega) (by omega)
  simp only [hz1, Value.cells, Nat.mul_one] at this
  rw [this, show Int.toNat 0 = 0 from rfl, show Int.toNat 64 = 64 from rfl]
  congr 3
  apply Array.ext_getElem?
  intro k
  by_cases hk : k < 64
  · simp [madeCells, valsOf, hk, Nat.mod_one]
  · simp [madeCells, valsOf, hk]
theorem Sheet.rw {w : World} {g : Nat} {p : Nat → Nat} (h : Sheet w g p) (n : Nat) (hn : n ≤ 64) : Rw w (some ⟨g, 0, none⟩) n p := by
  refine ⟨by unfold maxLen; omega, fun _ => ⟨g, 0, rfl, fun i hi => ?_⟩⟩
  rw [cell_of_row w g (0 + i) _ _ _ h, Nat.zero_add]
  simp [valsOf, show i < 64 from by omega]
/-- The head as it is written, byte behind byte. -/
def headP (gen len c d : Nat) : Nat → Nat := put4 (put4 (put4 (put4 (fun _ => 0) 0 (four gen)) 4 (four len)) 8 (four c)) 12 (four d)
theorem headP_low (gen len c : Nat) : ∀ i, i < 12 → put4 (put4 (put4 (fun _ => 0) 0 (four gen)) 4 (four len)) 8 (four c) i = head12 gen len c i := by
  intro i hi
  unfold put4 head12 cat
  by_cases h1 : i < 4
  · rw [if_neg (by omega), if_neg (by omega), if_pos (by omega), if_pos (by omega), if_pos h1, Nat.sub_zero]
  · by_cases h2 : i < 8
    · rw [if_neg (by omega), if_pos (by omega), if_pos (by omega), if_neg h1]
    · rw [if_pos (by omega), if_neg (by omega)]
theorem headP_eq (gen len : Nat) (f : Nat → Nat) (d : Nat) (hd : d = crc (head12 gen len (crc f len)) 12) : headP gen len (crc f len) d = ent gen f len 0 := by
  subst hd
  funext j
  show _ = fill (head16 gen len (crc f len)) 16 j
  unfold fill
  by_cases h : j < 12
  · rw [if_pos (by omega)]
    unfold headP head16 cat
    rw [if_pos h, ← headP_low gen len _ j h]
    generalize put4 (put4 (put4 (fun _ => 0) 0 (four gen)) 4 (four len)) 8 (four (crc f len)) = q
    unfold put4
    rw [if_neg (by omega)]
  · by_cases h2 : j < 16
    · rw [if_pos h2]
      unfold headP head16 cat
      rw [if_neg h]
      generalize put4 (put4 (put4 (fun _ => 0) 0 (four gen)) 4 (four len)) 8 (four (crc f len)) = q
      unfold put4
      rw [if_pos (by omega)]
    · rw [if_neg h2]
      unfold headP put4
      rw [if_neg (by omega), if_neg (by omega), if_neg (by omega), if_neg (by omega)]
set_option maxHeartbeats 1600000 in
theorem head_any (gen : Nat) (hg : gen ≤ 2147483647) (a : Option Addr) (len cap : Nat) (f : Nat → Nat) (w : World) (h : Rw w a len f) (hf : ∀ i, i < len → f i < 256) (hl : len ≤ 4294967295) :
    Calls Try.prog 70 #[.int .i64 (gen : Int), .slice a len cap] w fun e w' => e = .returned (.slice (some ⟨w.heap.size, 0, none⟩) 64 64) ∧ Sheet w' w.heap.size (ent gen f len 0) ∧ Below w.heap.size w w' := by
  have H := hide h
  have HF := hide hf
  have hc := crc_lt f len hf
  have hmk := fun w => run_make_room w
  have hal : ∀ x, a = some x → 0 < len → x.block ≠ w.heap.size := fun x hx hp => by have := h.lt x hx hp; omega
  have HAL := hide hal
  clear h hf hal
  go_enter Try.func70, Try.ntmps70
  go_wp2_with fail
  have hs0 : Sheet (w.alloc (.cells (valsOf (fun _ => 0) 64).toArray 5)) w.heap.size (fun _ => 0) := heap_alloc_new w _
  refine (appN_any _ w.heap.size 0 (fun _ => 0) gen (by omega) hs0 (by omega)).mono ?_
  rintro e w1 ⟨rfl, hs1, hk1⟩
  have HS1 := hide hs1
  have HK1 := hide (((Keeps.refl (fun b => b = w.heap.size) w).alloc (.cells (valsOf (fun _ => 0) 64).toArray 5)).trans hk1 (fun _ _ h => h))
  clear hs0 hs1 hk1
  go_wp2_with fail
  refine (appN_any _ w.heap.size 4 _ len (by omega) HS1.out (by omega)).mono ?_
  rintro e w2 ⟨rfl, hs2, hk2⟩
  have HS2 := hide hs2
  have HK2 := hide (HK1.out.trans hk2 (fun _ _ h => h))
  clear hs2 hk2
  go_wp2_with fail
  refine (of_rw a len cap f w2 (H.out.keeps HK2.out HAL.out) HF.out).mono ?_
  rintro e w3 ⟨rfl, rfl⟩
  go_wp2_with fail
  refine (appN_any _ w.heap.size 8 _ (crc f len) hc HS2.out (by omega)).mono ?_
  rintro e w4 ⟨rfl, hs4, hk4⟩
  have HS4 := hide hs4
  have HK4 := hide (HK2.out.trans hk4 (fun _ _ h => h))
  clear hs4 hk4
  go_wp2_with fail
  refine (of_rw _ 12 64 (head12 gen len (crc f len)) w4 ((HS4.out.rw 12 (by omega)).congr (headP_low gen len (crc f len))) (head12_lt gen len (crc f len))).mono ?_
  rintro e w5 ⟨rfl, rfl⟩
  go_wp2_with fail
  refine (appN_any _ w.heap.size 12 _ (crc (head12 gen len (crc f len)) 12) (crc_lt _ _ (head12_lt gen len (crc f len))) HS4.out (by omega)).mono ?_
  rintro e w6 ⟨rfl, hs6, hk6⟩
  have HS6 := hide hs6
  have HK6 := hide (HK4.out.trans hk6 (fun _ _ h => h))
  clear hs6 hk6
  go_wp2
  go_ret
  refine ⟨rfl, ?_, HK6.out.below _ (Nat.le_refl _) (fun b hb => by omega)⟩
  have hs := HS6.out
  rw [← headP_eq gen len f _ rfl]
  exact hs
end Go.Proofs.Ytbecchoidglaeaa
