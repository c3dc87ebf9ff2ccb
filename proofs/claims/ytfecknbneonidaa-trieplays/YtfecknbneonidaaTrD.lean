/- The program's Drop: what is idle is taken away. -/
import Derived.Test.YtfecknbneonidaaTrS
import Derived.StillTailTactics
namespace Go.Proofs.Ytfecknbneonidaa
open Go.RowKit
set_option maxRecDepth 100000

theorem TrieIs.cut {w : World} {B : Nat} {N : Nat → Nat → Option Nat} {C : Nat → Nat → Option Int} (h : TrieIs w B N C) {a n b s : Nat} (hb : N a n = some b) (hn : n < 32) (hs : s < 2)
    (hk0 : N (kid (kid a n s) (n + 1) 0) (n + 2) = none) (hk1 : N (kid (kid a n s) (n + 1) 1) (n + 2) = none) (hc : C (kid a n s) (n + 1) = none) :
    TrieIs (w.setCell ⟨b, s, none⟩ (.pointer none)) B (upd N (kid a n s) (n + 1) none) C :=
  h.hang hb hn hs none ((h.place _ _ _ hb).turn s hs none) (fun k _ hk2 => heap_setCell _ _ _ _ _ hk2) (fun c hc => by cases hc) hk0 hk1 hc
theorem blk_none {N : Nat → Nat → Option Nat} {a n b : Nat} (h : Blk (upd N a n none) b) : Blk N b := by
  obtain ⟨x, y, h⟩ := h
  by_cases e : x = a ∧ y = n
  · rw [e.1, e.2, upd_self] at h
    cases h
  · rw [upd_ne _ _ _ _ _ _ e] at h
    exact ⟨x, y, h⟩
theorem idle_true {l r : Option Nat} {c : Option Int} (h : idleB l r c = true) : l = none ∧ r = none ∧ c = none := by
  unfold idleB at h
  cases l <;> cases r <;> cases c <;> simp at h ⊢
/-- What prune promises at a place x of A's first n bits. -/
def PruneAt (A L B : Nat) (C : Nat → Nat → Option Int) (n x : Nat) (w : World) (N : Nat → Nat → Option Nat) : Prop :=
  Calls Try.prog 20 #[.pointer (some ⟨x, 0, none⟩), .agg #[.int .u32 (A : Int), .int .i64 (L : Int)], .int .i64 (n : Int)] w fun e w' => e = .returned (.tuple #[]) ∧ ∃ N', TrieIs w' B N' C ∧ (∀ m, m ≤ n → N' (cutTo A m) m = N (cutTo A m) m) ∧ Keeps (Blk N) w w' ∧ ∀ b, Blk N' b → Blk N b
set_option maxHeartbeats 400000 in
theorem prune_end (A L B : Nat) (C : Nat → Nat → Option Int) (x : Nat) (w : World) (N : Nat → Nat → Option Nat) (ht : TrieIs w B N C) : PruneAt A L B C L x w N := by
  have HT := hide ht
  clear ht
  unfold PruneAt
  go_enter Try.func20, Try.ntmps20
  go_wp2
  refine bodyPost_ret (v := .tuple #[]) (by simp [results, Try.results20, go_sem]) rfl ⟨rfl, N, HT.out.later ((Below.refl _ _).alloc (Nat.le_refl _) _), fun _ _ => rfl, (Keeps.refl _ _).alloc _, fun _ h => h⟩
set_option maxHeartbeats 1600000 in
theorem prune_step (A L B : Nat) (C : Nat → Nat → Option Int) (hL : L ≤ 32) (n x y : Nat) (w : World) (N : Nat → Nat → Option Nat) (hn : n < L) (ht : TrieIs w B N C) (hx : N (cutTo A n) n = some x) (hy : N (cutTo A (n + 1)) (n + 1) = some y)
    (ih : ∀ w1, TrieIs w1 B N C → PruneAt A L B C (n + 1) y w1 N) : PruneAt A L B C n x w N := by
    unfold PruneAt at *
    have hn32 : n < 32 := by omega
    rw [show (((n + 1 : Nat) : Int)) = (n : Int) + 1 from by omega] at ih
    have HI := hide ih
    have d0 : ((n : Int) == (L : Int)) = false := by simp; omega
    have hnl : (n : Int) < (L : Int) := by omega
    have hl32 : (L : Int) ≤ 32 := by omega
    have cs : w.cell? ⟨x, bitAt A n, none⟩ = some (.pointer (some ⟨y, 0, none⟩)) := by
      have := ht.step A n x hn32 hx
      rw [hy, adr_some] at this
      exact this
    have hxz : x < w.heap.size := ht.lt x ⟨_, _, hx⟩
    have HT := hide ht
    have HX := hide hx
    have HY := hide hy
    have HKid : Hid (kid (cutTo A n) n (bitAt A n) = cutTo A (n + 1)) := kid_cut A n hn32
    clear ht hx hy ih
    go_enter Try.func20, Try.ntmps20
    go_wp2_with fail
    refine (bitof_in A n _ hn32).mono ?_
    rintro e w2 ⟨rfl, rfl⟩
    have hb2 := bitAt_lt A n
    generalize hs : bitAt A n = s at *
    have HS := hide hs
    clear hs
    have hbi : ((s : Nat) : Int) < 2 := by omega
    have HB : Hid (Below w.heap.size w (w.alloc (.cells #[.int .u32 (A : Int), .int .i64 (L : Int)] 31))) := (Below.refl _ _).alloc (Nat.le_refl _) _
    have c0 : (w.alloc (.cells #[.int .u32 (A : Int), .int .i64 (L : Int)] 31)).cell? ⟨w.heap.size, 0, none⟩ = some (.int .u32 (A : Int)) := by simp [go_sem]
    have c1 : (w.alloc (.cells #[.int .u32 (A : Int), .int .i64 (L : Int)] 31)).cell? ⟨w.heap.size, 1, none⟩ = some (.int .i64 (L : Int)) := by simp [go_sem]
    have hz : w.heap.size < (w.alloc (.cells #[.int .u32 (A : Int), .int .i64 (L : Int)] 31)).heap.size := by simp
    generalize (w.alloc (.cells #[.int .u32 (A : Int), .int .i64 (L : Int)] 31)) = wb at *
    have HT1 : Hid (TrieIs wb B N C) := HT.out.later HB.out
    have cb : wb.cell? ⟨x, s, none⟩ = some (.pointer (some ⟨y, 0, none⟩)) := by rw [HB.out.cell (p := ⟨x, s, none⟩) hxz]; exact cs
    clear cs
    have HI2 : Hid (Calls Try.prog 20 #[.pointer (some ⟨y, 0, none⟩), .agg #[.int .u32 (A : Int), .int .i64 (L : Int)], .int .i64 ((n : Int) + 1)] wb.drew fun e w3 => e = .returned (.tuple #[]) ∧ Hid (w3.cell? ⟨w.heap.size, 0, none⟩ = some (.int .u32 (A : Int)) ∧ w3.cell? ⟨w.heap.size, 1, none⟩ = some (.int .i64 (L : Int)) ∧ w3.cell? ⟨x, s, none⟩ = some (.pointer (some ⟨y, 0, none⟩))) ∧ Hid (x < w3.heap.size ∧ Keeps (Blk N) w w3 ∧ ∃ N', TrieIs w3 B N' C ∧ (∀ m, m ≤ n + 1 → N' (cutTo A m) m = N (cutTo A m) m) ∧ ∀ b, Blk N' b → Blk N b)) := by
      refine (HI.out wb.drew (HT1.out.of_blocks fun _ _ => rfl)).mono ?_
      rintro e w3 ⟨he, N', hT, hm, hk, hsub⟩
      have hx' : N' (cutTo A n) n = some x := (hm n (by omega)).trans HX.out
      have hnb : ¬ Blk N w.heap.size := fun h => by have := HT.out.lt _ h; omega
      refine ⟨he, ⟨?_, ?_, ?_⟩, hT.lt x ⟨_, _, hx'⟩, ?_, N', hT, hm, hsub⟩
      · rw [hk.cell ⟨w.heap.size, 0, none⟩ hz hnb]; exact c0
      · rw [hk.cell ⟨w.heap.size, 1, none⟩ hz hnb]; exact c1
      · have := hT.step A n x hn32 hx'
        rw [hm (n + 1) (by omega), HY.out, adr_some, HS.out] at this
        exact this
      · exact ((Keeps.of_below HB.out (Blk N)).drew).trans hk fun _ _ h => h
    go_wp2_with fail
    go_still_tail 9, (by kernel_rfl)
    rw [show IntKind.i64.wrap ((n : Int) + 1) = (n : Int) + 1 from by rw [IntKind.wrap_i64]; omega]
    show wpList _ _ _ _ _ wb.drew
    go_wp2_with fail
    refine HI2.out.mono ?_
    rintro e w3 ⟨rfl, HSn, HP⟩
    obtain ⟨hxz3, hkw, N', hT3, hm3, hsub⟩ := HP.out
    have cx := HSn.out.2.2
    have HT3 := hide hT3
    have HM3 := hide hm3
    have HSub := hide hsub
    have HKW := hide hkw
    have hx3 : N' (cutTo A n) n = some x := (hm3 n (by omega)).trans HX.out
    have hy3 : N' (cutTo A (n + 1)) (n + 1) = some y := (hm3 (n + 1) (by omega)).trans HY.out
    have fz : w3.frozen? ⟨x, s, none⟩ = false := (hT3.place _ _ _ hx3).fz s (by omega)
    have pl := hT3.place _ _ _ hy3
    have hi := idle_any y _ _ _ w3 pl
    have HX3 := hide hx3
    clear hT3 hm3 hsub hkw hx3 hy3 HSn HP c0 c1 cb HI HI2 pl
    generalize hid : idleB (N' (kid (cutTo A (n + 1)) (n + 1) 0) (n + 1 + 1)) (N' (kid (cutTo A (n + 1)) (n + 1) 1) (n + 1 + 1)) (C (cutTo A (n + 1)) (n + 1)) = ib at *
    go_wp2_with fail
    refine hi.mono ?_
    clear hi
    rintro e w4 ⟨rfl, rfl⟩
    cases ib with
    | false =>
      clear hid
      go_wp2
      exact bodyPost_end (results_none rfl _ _ _) rfl ⟨rfl, N', HT3.out, fun m hm => HM3.out m (by omega), HKW.out, HSub.out⟩
    | true =>
      obtain ⟨i1, i2, i3⟩ := idle_true hid
      have HG : Hid (TrieIs (w4.setCell ⟨x, s, none⟩ (.pointer none)) B (upd N' (cutTo A (n + 1)) (n + 1) none) C) := by
        have := HT3.out.cut (s := s) HX3.out hn32 hb2
        rw [HKid.out] at this
        exact this i1 i2 i3
      clear hid i1 i2 i3
      go_wp2
      refine bodyPost_end (results_none rfl _ _ _) rfl ⟨rfl, _, HG.out, fun m hm => ?_, ?_, fun b hb => HSub.out b (blk_none hb)⟩
      · rw [upd_ne _ _ _ _ _ _ (by omega)]
        exact HM3.out m (by omega)
      · exact HKW.out.setCell _ _ _ (.inl (HSub.out x ⟨_, _, HX3.out⟩))
theorem prune_any (A L B : Nat) (C : Nat → Nat → Option Int) (hL : L ≤ 32) (N : Nat → Nat → Option Nat) (hc : ∃ c, N (cutTo A L) L = some c) : ∀ (d n x : Nat) (w : World), n + d = L → TrieIs w B N C → N (cutTo A n) n = some x → PruneAt A L B C n x w N
  | 0, n, x, w, hd, ht, _ => by
    obtain rfl : n = L := by omega
    exact prune_end A n B C x w N ht
  | d + 1, n, x, w, hd, ht, hx => by
    obtain ⟨y, hy⟩ : ∃ y, N (cutTo A (n + 1)) (n + 1) = some y := by
      cases e : N (cutTo A (n + 1)) (n + 1) with
      | some y => exact ⟨y, rfl⟩
      | none =>
        obtain ⟨c, hc⟩ := hc
        rw [ht.down A (n + 1) e L (by omega) hL] at hc
        cases hc
    exact prune_step A L B C hL n x y w N (by omega) ht hx hy fun w1 h1 => prune_any A L B C hL N hc d (n + 1) y w1 (by omega) h1 hy
set_option maxHeartbeats 400000 in
theorem drop_nil (A L : Int) (w : World) : Calls Try.prog 10 #[.pointer none, .agg #[.int .u32 A, .int .i64 L]] w fun e w' => e = .returned (.bool false) ∧ Below w.heap.size w w' := by
  go_enter Try.func10, Try.ntmps10
  go_wp2_with fail
  refine (placeof_nil A L _).mono ?_
  rintro e w1 ⟨rfl, hb⟩
  have HB : Hid (Below w.heap.size w w1) := ((Below.refl _ _).alloc (Nat.le_refl _) _).trans (hb.mono (by simp))
  clear hb
  go_wp2
  go_ret
  exact ⟨rfl, HB.out⟩
/-- What Drop leaves of what each has. -/
def dropC (C : Nat → Nat → Option Int) (A : Nat) (L : Int) : Nat → Nat → Option Int := if rightB A L then upd C A L.toNat none else C
theorem upd_none {C : Nat → Nat → Option Int} {a n : Nat} (h : C a n = none) : upd C a n none = C := by
  funext x y
  by_cases e : x = a ∧ y = n
  · rw [e.1, e.2, upd_self, h]
  · rw [upd_ne _ _ _ _ _ _ e]
set_option maxHeartbeats 800000 in
theorem drop_any (A B : Nat) (L : Int) (w : World) (N : Nat → Nat → Option Nat) (C : Nat → Nat → Option Int) (hA : A < 4294967296) (ht : TrieIs w B N C) :
    Calls Try.prog 10 #[.pointer (some ⟨B, 0, none⟩), pfx A L] w fun e w' => e = .returned (.bool (hasC C A L).isSome) ∧ ∃ N', TrieIs w' B N' (dropC C A L) ∧ Keeps (Blk N) w w' ∧ ∀ b, Blk N' b → Blk N b := by
  have HT := hide ht
  have hbz : B < w.heap.size := ht.lt B ⟨_, _, ht.root⟩
  clear ht
  have hp := fun w1 h => placeof_any A L B w1 N C hA h
  unfold pfx at *
  go_enter Try.func10, Try.ntmps10
  go_wp2_with fail
  refine (hp _ (HT.out.later ((Below.refl _ _).alloc (Nat.le_refl _) _))).mono ?_
  clear hp
  rintro e w1 ⟨rfl, hb⟩
  have HB : Hid (Below w.heap.size w w1) := ((Below.refl _ _).alloc (Nat.le_refl _) _).trans (hb.mono (by simp))
  have c0 : w1.cell? ⟨w.heap.size, 0, none⟩ = some (.int .u32 (A : Int)) := by rw [hb.cell (p := ⟨w.heap.size, 0, none⟩) (by simp)]; simp [go_sem]
  have c1 : w1.cell? ⟨w.heap.size, 1, none⟩ = some (.int .i64 L) := by rw [hb.cell (p := ⟨w.heap.size, 1, none⟩) (by simp)]; simp [go_sem]
  have hz : w.heap.size < w1.heap.size := by have := hb.size; simp at this; omega
  have HT1 : Hid (TrieIs w1 B N C) := HT.out.later HB.out
  clear hb
  generalize hN : (if rightB A L = true then N A L.toNat else none) = x
  cases x with
  | none =>
    have HE : Hid (hasC C A L = none ∧ dropC C A L = C) := by
      show hasC C A L = none ∧ dropC C A L = C
      unfold hasC dropC
      by_cases e : rightB A L = true
      · rw [if_pos e] at *
        rw [if_pos e]
        have := HT1.out.gone _ _ hN
        exact ⟨this, upd_none this⟩
      · rw [if_neg e, if_neg e]; exact ⟨rfl, rfl⟩
    clear hN
    rw [adr_none]
    go_wp2
    go_ret
    exact ⟨by rw [HE.out.1]; rfl, N, by rw [HE.out.2]; exact HT1.out, Keeps.of_below HB.out _, fun _ h => h⟩
  | some b =>
    have hr : rightB A L = true := by
      cases e : rightB A L with
      | true => rfl
      | false => rw [e] at hN; cases hN
    obtain ⟨n, rfl, hn, hcut⟩ := rightB_len hr
    rw [if_pos hr, Int.toNat_natCast] at hN
    have HE : Hid (hasC C A (n : Int) = C A n ∧ dropC C A (n : Int) = upd C A n none) := by
      show hasC C A (n : Int) = C A n ∧ dropC C A (n : Int) = upd C A n none
      unfold hasC dropC
      rw [if_pos hr, if_pos hr, Int.toNat_natCast]
      exact ⟨rfl, rfl⟩
    have p := HT1.out.place _ _ _ hN
    have c2 := p.c2
    have c3 := p.c3
    have f2 := p.fz 2 (by omega)
    have f3 := p.fz 3 (by omega)
    have HN := hide hN
    have HCut := hide hcut
    have HNE : Hid (b ≠ w.heap.size) := by have := HT.out.lt b ⟨_, _, hN⟩; show b ≠ w.heap.size; omega
    clear p hN hr hcut
    rw [adr_some]
    cases hC : C A n with
    | none =>
      rw [hC] at c2 c3
      simp only [Option.isSome_none] at c2
      have HE2 : Hid (hasC C A (n : Int) = none ∧ dropC C A (n : Int) = C) := ⟨HE.out.1.trans hC, HE.out.2.trans (upd_none hC)⟩
      clear hC
      go_wp2
      go_ret
      exact ⟨by rw [HE2.out.1]; rfl, N, by rw [HE2.out.2]; exact HT1.out, Keeps.of_below HB.out _, fun _ h => h⟩
    | some v =>
      rw [hC] at c2 c3
      simp only [Option.isSome_some, Option.getD_some] at c2 c3
      have HE2 : Hid (hasC C A (n : Int) = some v) := HE.out.1.trans hC
      clear hC
      have HT2 : Hid (TrieIs ((w1.setCell ⟨b, 2, none⟩ (.bool false)).setCell ⟨b, 3, none⟩ (.int .i64 0)) B N (upd C A n none)) := HT1.out.put HN.out none
      have hbw : b < w1.heap.size := HT1.out.lt b ⟨_, _, HN.out⟩
      have HR : Hid (N (cutTo A 0) 0 = some B) := by rw [cutTo_none A hA]; exact HT1.out.root
      have hP := prune_any A n B (upd C A n none) hn N ⟨b, by rw [HCut.out]; exact HN.out⟩ n 0 B
      unfold PruneAt at hP
      have HP := hide hP
      clear hP
      have d0 : (((w1.setCell ⟨b, 2, none⟩ (.bool false)).setCell ⟨b, 3, none⟩ (.int .i64 0)).cell? ⟨w.heap.size, 0, none⟩) = some (.int .u32 (A : Int)) := by
        rw [World.cell?_of_block (w := w1) (by rw [heap_setCell _ _ _ _ _ (fun h => HNE.out h.symm), heap_setCell _ _ _ _ _ (fun h => HNE.out h.symm)])]; exact c0
      have d1 : (((w1.setCell ⟨b, 2, none⟩ (.bool false)).setCell ⟨b, 3, none⟩ (.int .i64 0)).cell? ⟨w.heap.size, 1, none⟩) = some (.int .i64 (n : Int)) := by
        rw [World.cell?_of_block (w := w1) (by rw [heap_setCell _ _ _ _ _ (fun h => HNE.out h.symm), heap_setCell _ _ _ _ _ (fun h => HNE.out h.symm)])]; exact c1
      have HK : Hid (Keeps (Blk N) w ((w1.setCell ⟨b, 2, none⟩ (.bool false)).setCell ⟨b, 3, none⟩ (.int .i64 0))) := ((Keeps.of_below HB.out _).setCell _ _ _ (.inl ⟨_, _, HN.out⟩)).setCell _ _ _ (.inl ⟨_, _, HN.out⟩)
      have hBw : B < ((w1.setCell ⟨b, 2, none⟩ (.bool false)).setCell ⟨b, 3, none⟩ (.int .i64 0)).heap.size := HT2.out.lt B ⟨_, _, HT2.out.root⟩
      go_wp2_with fail
      generalize ((w1.setCell ⟨b, 2, none⟩ (.bool false)).setCell ⟨b, 3, none⟩ (.int .i64 0)) = w2 at *
      go_still_tail 4, (by kernel_rfl)
      show wpList _ _ _ _ _ w2.drew
      go_wp2_with fail
      refine (HP.out w2.drew (by omega) (HT2.out.of_blocks fun _ _ => rfl) HR.out).mono ?_
      rintro e w3 ⟨rfl, N', hT3, _, hk3, hsub⟩
      have HF : Hid (∃ N', TrieIs w3 B N' (upd C A n none) ∧ Keeps (Blk N) w w3 ∧ ∀ b, Blk N' b → Blk N b) := ⟨N', hT3, (HK.out.drew).trans hk3 fun _ _ h => h, hsub⟩
      clear hT3 hk3 hsub
      go_wp2
      go_ret
      rw [HE2.out, HE.out.2]
      exact ⟨rfl, HF.out⟩
end Go.Proofs.Ytfecknbneonidaa
