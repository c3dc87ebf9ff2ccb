/- The program's Find: the longest prefix that covers an address. -/
import Derived.Test.YtfecknbneonidaaTrQ
import Derived.StillTailTactics
namespace Go.Proofs.Ytfecknbneonidaa
open Go.RowKit
set_option maxRecDepth 100000

/-- Of the prefixes of A with fewer than k bits that have something, the longest. -/
def longC (C : Nat → Nat → Option Int) (A : Nat) : Nat → Option (Nat × Int)
  | 0 => none
  | k + 1 => match C (cutTo A k) k with
    | some v => some (k, v)
    | none => longC C A k
theorem longC_some {C : Nat → Nat → Option Int} {A k : Nat} {v : Int} (h : C (cutTo A k) k = some v) : longC C A (k + 1) = some (k, v) := by simp only [longC, h]
theorem longC_none {C : Nat → Nat → Option Int} {A k : Nat} (h : C (cutTo A k) k = none) : longC C A (k + 1) = longC C A k := by simp only [longC, h]
theorem longC_end {w : World} {B : Nat} {N : Nat → Nat → Option Nat} {C : Nat → Nat → Option Int} (h : TrieIs w B N C) (A k : Nat) (hk : k ≤ 33) (hn : k ≤ 32 → N (cutTo A k) k = none) : longC C A 33 = longC C A k := by
  have : ∀ d, k + d ≤ 33 → longC C A (k + d) = longC C A k := by
    intro d
    induction d with
    | zero => intro _; rfl
    | succ d ih =>
      intro hd
      rw [← Nat.add_assoc, longC_none (h.gone _ _ (h.down A k (hn (by omega)) (k + d) (by omega) (by omega)))]
      exact ih (by omega)
  have h2 := this (33 - k) (by omega)
  rwa [show k + (33 - k) = 33 from by omega] at h2
theorem longC_le {C : Nat → Nat → Option Int} {A : Nat} : ∀ {k n : Nat} {v : Int}, longC C A k = some (n, v) → n < k ∧ C (cutTo A n) n = some v
  | 0, _, _, h => by cases h
  | k + 1, n, v, h => by
    cases e : C (cutTo A k) k with
    | some u =>
      rw [longC_some e] at h
      cases h
      exact ⟨by omega, e⟩
    | none =>
      rw [longC_none e] at h
      obtain ⟨h1, h2⟩ := longC_le h
      exact ⟨by omega, h2⟩
/-- How many bits the longest has, and what. -/
def bitsL (o : Option (Nat × Int)) : Nat := match o with | some p => p.1 | none => 0
def valL (o : Option (Nat × Int)) : Int := match o with | some p => p.2 | none => 0
theorem bitsL_le {C : Nat → Nat → Option Int} {A k : Nat} (hk : k ≤ 33) : bitsL (longC C A k) ≤ 32 := by
  cases h : longC C A k with
  | none => exact Nat.zero_le _
  | some p =>
    have := (longC_le (v := p.2) (n := p.1) h).1
    show p.1 ≤ 32
    omega
set_option maxHeartbeats 400000 in
theorem find_nil (A : Int) (w : World) : Calls Try.prog 15 #[.pointer none, .int .u32 A] w fun e w' => e = .returned (.tuple #[pfx 0 0, .int .i64 0, .bool false]) ∧ Below w.heap.size w w' := by
  go_enter Try.func15, Try.ntmps15
  go_wp2
  exact bodyPost_ret (v := .tuple #[pfx 0 0, .int .i64 0, .bool false]) (by simp [results, Try.results15, go_sem, pfx]) rfl ⟨rfl, (Below.refl _ _).alloc (Nat.le_refl _) _⟩
/-- The longest so far, in its box. -/
structure LongAt (w : World) (X : Nat) (o : Option (Nat × Int)) : Prop where
  c : ∃ p q, w.cell? ⟨X, 0, none⟩ = some (.pointer p) ∧ w.cell? ⟨X, 1, none⟩ = some (.pointer q)
  c2 : w.cell? ⟨X, 2, none⟩ = some (.bool o.isSome)
  c3 : w.cell? ⟨X, 3, none⟩ = some (.int .i64 (valL o))
  fz : ∀ k, k < 4 → w.frozen? ⟨X, k, none⟩ = false
theorem LongAt.of_block {w w' : World} {X : Nat} {o : Option (Nat × Int)} (h : LongAt w X o) (e : w'.heap[X]? = w.heap[X]?) : LongAt w' X o := by
  obtain ⟨⟨p, q, h0, h1⟩, h2, h3, h4⟩ := h
  exact ⟨⟨p, q, by rw [World.cell?_of_block (w := w) (by exact e)]; exact h0, by rw [World.cell?_of_block (w := w) (by exact e)]; exact h1⟩, by rw [World.cell?_of_block (w := w) (by exact e)]; exact h2, by rw [World.cell?_of_block (w := w) (by exact e)]; exact h3, fun k hk => by rw [World.frozen?_of_block (w := w) (by exact e)]; exact h4 k hk⟩
theorem LongAt.put {w : World} {X : Nat} {o o' : Option (Nat × Int)} (h : LongAt w X o) (p q : Option Addr) : LongAt ((((w.setCell ⟨X, 0, none⟩ (.pointer p)).setCell ⟨X, 1, none⟩ (.pointer q)).setCell ⟨X, 2, none⟩ (.bool o'.isSome)).setCell ⟨X, 3, none⟩ (.int .i64 (valL o'))) X o' := by
  obtain ⟨⟨p', q', h0, h1⟩, h2, h3, h4⟩ := h
  refine ⟨⟨p, q, ?_, ?_⟩, ?_, ?_, fun k hk => by rw [fz_put, fz_put, fz_put, fz_put]; exact h4 k hk⟩
  · rw [cell_off _ _ _ _ _ (by omega), cell_off _ _ _ _ _ (by omega), cell_off _ _ _ _ _ (by omega)]; exact cell_put _ _ _ _ _ h0
  · rw [cell_off _ _ _ _ _ (by omega), cell_off _ _ _ _ _ (by omega)]; exact cell_put _ _ _ _ (.pointer q') (by rw [cell_off _ _ _ _ _ (by omega)]; exact h1)
  · rw [cell_off _ _ _ _ _ (by omega)]; exact cell_put _ _ _ _ (.bool o.isSome) (by rw [cell_off _ _ _ _ _ (by omega), cell_off _ _ _ _ _ (by omega)]; exact h2)
  · exact cell_put _ _ _ _ (.int .i64 (valL o)) (by rw [cell_off _ _ _ _ _ (by omega), cell_off _ _ _ _ _ (by omega), cell_off _ _ _ _ _ (by omega)]; exact h3)
set_option maxHeartbeats 1600000 in
theorem find_any (A B : Nat) (w : World) (N : Nat → Nat → Option Nat) (C : Nat → Nat → Option Int) (hA : A < 4294967296) (ht : TrieIs w B N C) :
    Calls Try.prog 15 #[.pointer (some ⟨B, 0, none⟩), .int .u32 (A : Int)] w fun e w' => e = .returned (.tuple #[pfx (cutTo A (bitsL (longC C A 33))) (bitsL (longC C A 33)), .int .i64 (valL (longC C A 33)), .bool (longC C A 33).isSome]) ∧ Below w.heap.size w w' := by
  have HT := hide ht
  have H0 : Hid (N (cutTo A 0) 0 = some B) := by rw [cutTo_none A hA]; exact ht.root
  have hbz : B < w.heap.size := ht.lt B ⟨_, _, ht.root⟩
  clear ht
  go_enter Try.func15, Try.ntmps15
  go_wp2
  go_loopw [8, 9, 10] (fun bits at_ i wq => ∃ k b : Nat, k ≤ 33 ∧ b ≤ 32 ∧ Hid (b = bitsL (longC C A k)) ∧ bits = .int .i64 (b : Int) ∧ at_ = .pointer (adr (if k ≤ 32 then N (cutTo A k) k else none)) ∧ i = .int .i64 k ∧ Hid (Below w.heap.size w wq) ∧ w.heap.size + 1 < wq.heap.size ∧ Hid (LongAt wq (w.heap.size + 1) (longC C A k)) ∧ wq.cell? ⟨w.heap.size, 0, none⟩ = some (.int .u32 0) ∧ wq.cell? ⟨w.heap.size, 1, none⟩ = some (.int .i64 0) ∧ wq.frozen? ⟨w.heap.size, 0, none⟩ = false ∧ wq.frozen? ⟨w.heap.size, 1, none⟩ = false) (fun _ _ i _ => 33 - (intOf i).toNat)
  case atStart =>
    refine ⟨0, 0, by omega, by omega, rfl, rfl, by rw [if_pos (by omega), H0.out]; rfl, rfl, ((Below.refl _ _).alloc (Nat.le_refl _) _).alloc (by simp) _, by simp, ⟨⟨none, none, by simp [go_sem], by simp [go_sem]⟩, by simp [go_sem, longC], by simp [go_sem, longC, valL], fun k hk => by simp [go_sem]⟩, by simp [go_sem], by simp [go_sem], by simp [go_sem], by simp [go_sem]⟩
  case round =>
    obtain ⟨k, b, hk, hb, HBits, rfl, rfl, rfl, HB, hz, HL, c0, c1, f0, f1⟩ := hrel
    have HT1 : Hid (TrieIs wr B N C) := HT.out.later HB.out
    generalize hN : (if k ≤ 32 then N (cutTo A k) k else none) = x
    cases x with
    | none =>
      have HE : Hid (longC C A 33 = longC C A k) := longC_end HT1.out A k hk fun h => by rw [if_pos h] at hN; exact hN
      obtain ⟨_, l2, l3, _⟩ := HL.out
      clear hN
      rw [adr_none]
      go_wp2_with fail
      refine (make_in A b _ hA hb).mono ?_
      rintro e w2 ⟨rfl, hb2⟩
      have HB2 : Hid (Below w.heap.size w w2) := HB.out.trans (hb2.mono (by omega))
      have d0 : w2.cell? ⟨w.heap.size, 0, none⟩ = some (.int .u32 0) := by rw [hb2.cell (p := ⟨w.heap.size, 0, none⟩) (by simp; omega)]; exact c0
      have d1 : w2.cell? ⟨w.heap.size, 1, none⟩ = some (.int .i64 0) := by rw [hb2.cell (p := ⟨w.heap.size, 1, none⟩) (by simp; omega)]; exact c1
      have e0 : w2.frozen? ⟨w.heap.size, 0, none⟩ = false := by rw [hb2.frozen (p := ⟨w.heap.size, 0, none⟩) (by simp; omega)]; exact f0
      have e1 : w2.frozen? ⟨w.heap.size, 1, none⟩ = false := by rw [hb2.frozen (p := ⟨w.heap.size, 1, none⟩) (by simp; omega)]; exact f1
      have d2 : w2.cell? ⟨w.heap.size + 1, 2, none⟩ = some (.bool (longC C A k).isSome) := by rw [hb2.cell (p := ⟨w.heap.size + 1, 2, none⟩) (by simp; omega)]; exact l2
      have d3 : w2.cell? ⟨w.heap.size + 1, 3, none⟩ = some (.int .i64 (valL (longC C A k))) := by rw [hb2.cell (p := ⟨w.heap.size + 1, 3, none⟩) (by simp; omega)]; exact l3
      have hz2 : w.heap.size + 1 < w2.heap.size := Nat.lt_of_lt_of_le hz hb2.size
      have hz3 : w.heap.size < w2.heap.size := by omega
      clear hb2 c0 c1 f0 f1 l2 l3
      unfold pfx
      have q0 : (w2.alloc (.cells #[.int .u32 (cutTo A b : Int), .int .i64 (b : Int)] 31)).cell? ⟨w2.heap.size, 0, none⟩ = some (.int .u32 (cutTo A b : Int)) := by simp [go_sem]
      have q1 : (w2.alloc (.cells #[.int .u32 (cutTo A b : Int), .int .i64 (b : Int)] 31)).cell? ⟨w2.heap.size, 1, none⟩ = some (.int .i64 (b : Int)) := by simp [go_sem]
      rw [← World.cell?_alloc_lt w2 (.cells #[.int .u32 (cutTo A b : Int), .int .i64 (b : Int)] 31) _ (by exact hz3)] at d0 d1
      rw [← World.cell?_alloc_lt w2 (.cells #[.int .u32 (cutTo A b : Int), .int .i64 (b : Int)] 31) _ (by exact hz2)] at d2 d3
      rw [← ((Below.refl w2.heap.size w2).alloc (Nat.le_refl _) (.cells #[.int .u32 (cutTo A b : Int), .int .i64 (b : Int)] 31)).frozen (by exact hz3)] at e0 e1
      have HB3 : Hid (Below w.heap.size w (w2.alloc (.cells #[.int .u32 (cutTo A b : Int), .int .i64 (b : Int)] 31))) := HB2.out.alloc (by omega) _
      have hz4 : w.heap.size < (w2.alloc (.cells #[.int .u32 (cutTo A b : Int), .int .i64 (b : Int)] 31)).heap.size := by simp; omega
      go_wp2_with fail
      generalize (w2.alloc (.cells #[.int .u32 (cutTo A b : Int), .int .i64 (b : Int)] 31)) = w3 at *
      go_region
      all_goals go_wp2
      all_goals (rw [HE.out, ← HBits.out]; exact bodyPost_ret (v := .tuple #[pfx (cutTo A b) b, .int .i64 (valL (longC C A k)), .bool (longC C A k).isSome]) (by simp [results, Try.results15, go_sem, pfx, d0, d1]) rfl ⟨rfl, ((HB3.out.setCell (by simp) _).setCell (by simp) _).drew⟩)
    | some y =>
      have hk32 : k ≤ 32 := by
        by_cases h : k ≤ 32
        · exact h
        · rw [if_neg h] at hN; cases hN
      rw [if_pos hk32] at hN
      have pl := HT1.out.place _ _ _ hN
      have p0 := pl.c0
      have p1 := pl.c1
      have p2 := pl.c2
      have p3 := pl.c3
      have HY : Hid (y < w.heap.size) := HT.out.lt y ⟨_, _, hN⟩
      have hyz : y < wr.heap.size := HT1.out.lt y ⟨_, _, hN⟩
      have HN := hide hN
      clear hN pl
      obtain ⟨⟨lp, lq, l0, l1⟩, l2, l3, l4⟩ := HL.out
      have g0 := l4 0 (by omega)
      have g1 := l4 1 (by omega)
      have g2 := l4 2 (by omega)
      have g3 := l4 3 (by omega)
      clear l4
      rw [adr_some]
      generalize hp0 : adr (N (kid (cutTo A k) k 0) (k + 1)) = P0 at *
      generalize hp1 : adr (N (kid (cutTo A k) k 1) (k + 1)) = P1 at *
      clear hp0 hp1
      cases hC : C (cutTo A k) k with
      | none =>
        rw [hC] at p2 p3
        simp only [Option.isSome_none] at p2
        have HL2 : Hid (LongAt wr (w.heap.size + 1) (longC C A (k + 1))) := by rw [longC_none hC]; exact HL.out
        have HB3 : Hid (b = bitsL (longC C A (k + 1))) := by rw [longC_none hC]; exact HBits.out
        clear hC
        by_cases hlt : k < 32
        · have cs : wr.cell? ⟨y, bitAt A k, none⟩ = some (.pointer (adr (N (cutTo A (k + 1)) (k + 1)))) := HT1.out.step A k y hlt HN.out
          have hb2 := bitAt_lt A k
          have hbi : ((bitAt A k : Nat) : Int) < 2 := by omega
          go_wp2_with fail
          go_quiet ((go_at_call 22; exact Calls.quiet_of_same (bitof_in A k _ hlt)))
          go_wp2
          exact ⟨⟨k + 1, b, by omega, hb, HB3, rfl, by rw [if_pos (by omega)], by go_num, below_drewN HB.out nq, hz, HL2.out.of_block rfl, c0, c1, f0, f1⟩, by simp [intOf]; omega⟩
        · obtain rfl : k = 32 := by omega
          have cs := HT1.out.last _ y HN.out
          clear p0
          go_wp2_with fail
          go_quiet ((go_at_call 22; exact Calls.quiet_of_same (bitof_end A _)))
          go_wp2
          exact ⟨⟨33, b, by omega, hb, HB3, rfl, by rw [if_neg (by omega)]; rfl, by go_num, below_drewN HB.out nq, hz, HL2.out.of_block rfl, c0, c1, f0, f1⟩, by simp [intOf]⟩
      | some v =>
        rw [hC] at p2 p3
        simp only [Option.isSome_some, Option.getD_some] at p2 p3
        have HL2 : Hid (LongAt ((((wr.setCell ⟨w.heap.size + 1, 0, none⟩ (.pointer P0)).setCell ⟨w.heap.size + 1, 1, none⟩ (.pointer P1)).setCell ⟨w.heap.size + 1, 2, none⟩ (.bool true)).setCell ⟨w.heap.size + 1, 3, none⟩ (.int .i64 v)) (w.heap.size + 1) (longC C A (k + 1))) := by rw [longC_some hC]; exact HL.out.put (o' := some (k, v)) P0 P1
        have HB3 : Hid (k = bitsL (longC C A (k + 1))) := by rw [longC_some hC]; exact rfl
        clear hC
        have HBw : Hid (Below w.heap.size w ((((wr.setCell ⟨w.heap.size + 1, 0, none⟩ (.pointer P0)).setCell ⟨w.heap.size + 1, 1, none⟩ (.pointer P1)).setCell ⟨w.heap.size + 1, 2, none⟩ (.bool true)).setCell ⟨w.heap.size + 1, 3, none⟩ (.int .i64 v))) := (((HB.out.setCell (by simp) _).setCell (by simp) _).setCell (by simp) _).setCell (by simp) _
        have hblk : ∀ j, j ≠ w.heap.size + 1 → ((((wr.setCell ⟨w.heap.size + 1, 0, none⟩ (.pointer P0)).setCell ⟨w.heap.size + 1, 1, none⟩ (.pointer P1)).setCell ⟨w.heap.size + 1, 2, none⟩ (.bool true)).setCell ⟨w.heap.size + 1, 3, none⟩ (.int .i64 v)).heap[j]? = wr.heap[j]? := fun j hj => by
          rw [heap_setCell _ _ _ _ _ hj, heap_setCell _ _ _ _ _ hj, heap_setCell _ _ _ _ _ hj, heap_setCell _ _ _ _ _ hj]
        have C0 : ((((wr.setCell ⟨w.heap.size + 1, 0, none⟩ (.pointer P0)).setCell ⟨w.heap.size + 1, 1, none⟩ (.pointer P1)).setCell ⟨w.heap.size + 1, 2, none⟩ (.bool true)).setCell ⟨w.heap.size + 1, 3, none⟩ (.int .i64 v)).cell? ⟨w.heap.size, 0, none⟩ = some (.int .u32 0) := by rw [World.cell?_of_block (w := wr) (hblk _ (by simp))]; exact c0
        have C1 : ((((wr.setCell ⟨w.heap.size + 1, 0, none⟩ (.pointer P0)).setCell ⟨w.heap.size + 1, 1, none⟩ (.pointer P1)).setCell ⟨w.heap.size + 1, 2, none⟩ (.bool true)).setCell ⟨w.heap.size + 1, 3, none⟩ (.int .i64 v)).cell? ⟨w.heap.size, 1, none⟩ = some (.int .i64 0) := by rw [World.cell?_of_block (w := wr) (hblk _ (by simp))]; exact c1
        have F0 : ((((wr.setCell ⟨w.heap.size + 1, 0, none⟩ (.pointer P0)).setCell ⟨w.heap.size + 1, 1, none⟩ (.pointer P1)).setCell ⟨w.heap.size + 1, 2, none⟩ (.bool true)).setCell ⟨w.heap.size + 1, 3, none⟩ (.int .i64 v)).frozen? ⟨w.heap.size, 0, none⟩ = false := by rw [World.frozen?_of_block (w := wr) (hblk _ (by simp))]; exact f0
        have F1 : ((((wr.setCell ⟨w.heap.size + 1, 0, none⟩ (.pointer P0)).setCell ⟨w.heap.size + 1, 1, none⟩ (.pointer P1)).setCell ⟨w.heap.size + 1, 2, none⟩ (.bool true)).setCell ⟨w.heap.size + 1, 3, none⟩ (.int .i64 v)).frozen? ⟨w.heap.size, 1, none⟩ = false := by rw [World.frozen?_of_block (w := wr) (hblk _ (by simp))]; exact f1
        have hz9 : w.heap.size + 1 < ((((wr.setCell ⟨w.heap.size + 1, 0, none⟩ (.pointer P0)).setCell ⟨w.heap.size + 1, 1, none⟩ (.pointer P1)).setCell ⟨w.heap.size + 1, 2, none⟩ (.bool true)).setCell ⟨w.heap.size + 1, 3, none⟩ (.int .i64 v)).heap.size := by simpa using hz
        have HT2 : Hid (TrieIs ((((wr.setCell ⟨w.heap.size + 1, 0, none⟩ (.pointer P0)).setCell ⟨w.heap.size + 1, 1, none⟩ (.pointer P1)).setCell ⟨w.heap.size + 1, 2, none⟩ (.bool true)).setCell ⟨w.heap.size + 1, 3, none⟩ (.int .i64 v)) B N C) := HT.out.later HBw.out
        clear hblk
        go_wp2_with fail
        generalize ((((wr.setCell ⟨w.heap.size + 1, 0, none⟩ (.pointer P0)).setCell ⟨w.heap.size + 1, 1, none⟩ (.pointer P1)).setCell ⟨w.heap.size + 1, 2, none⟩ (.bool true)).setCell ⟨w.heap.size + 1, 3, none⟩ (.int .i64 v)) = w5 at *
        have hyz5 : y < w5.heap.size := HT2.out.lt y ⟨_, _, HN.out⟩
        clear p0 p1 p2 p3 l0 l1 l2 l3 g0 g1 g2 g3
        by_cases hlt : k < 32
        · have cs : w5.cell? ⟨y, bitAt A k, none⟩ = some (.pointer (adr (N (cutTo A (k + 1)) (k + 1)))) := HT2.out.step A k y hlt HN.out
          have hb2 := bitAt_lt A k
          have hbi : ((bitAt A k : Nat) : Int) < 2 := by omega
          go_quiet ((go_at_call 22; exact Calls.quiet_of_same (bitof_in A k _ hlt)))
          go_wp2
          exact ⟨⟨k + 1, k, by omega, hk32, HB3, rfl, by rw [if_pos (by omega)], by go_num, below_drewN HBw.out nq, hz9, HL2.out.of_block rfl, C0, C1, F0, F1⟩, by simp [intOf]; omega⟩
        · obtain rfl : k = 32 := by omega
          have cs := HT2.out.last _ y HN.out
          go_quiet ((go_at_call 22; exact Calls.quiet_of_same (bitof_end A _)))
          go_wp2
          exact ⟨⟨33, 32, by omega, by omega, HB3, rfl, by rw [if_neg (by omega)]; rfl, by go_num, below_drewN HBw.out nq, hz9, HL2.out.of_block rfl, C0, C1, F0, F1⟩, by simp [intOf]⟩
end Go.Proofs.Ytfecknbneonidaa
