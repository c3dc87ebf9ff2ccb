/- The program's Set. -/
import Derived.Test.YtfecknbneonidaaTrQ
namespace Go.Proofs.Ytfecknbneonidaa
open Go.RowKit
set_option maxRecDepth 100000

theorem TrieIs.none_below {w : World} {B : Nat} {N : Nat → Nat → Option Nat} {C : Nat → Nat → Option Int} (h : TrieIs w B N C) {x n : Nat} (hx : Key x n) (hn : N x n = none) (s : Nat) (hs : s < 2) : N (kid x n s) (n + 1) = none := by
  cases e : N (kid x n s) (n + 1) with
  | none => rfl
  | some c =>
    have k := h.key _ _ _ e
    obtain ⟨d, hd⟩ := h.up _ _ _ e
    rw [(kid_facts hx (by have := k.1; omega) hs).2.1, hn] at hd
    cases hd
theorem TrieIs.grow {w : World} {B : Nat} {N : Nat → Nat → Option Nat} {C : Nat → Nat → Option Int} (h : TrieIs w B N C) {a n b s : Nat} (t : TypeId) (hb : N a n = some b) (hn : n < 32) (hs : s < 2) (hk : N (kid a n s) (n + 1) = none) :
    TrieIs ((w.setCell ⟨b, s, none⟩ (.pointer (some ⟨w.heap.size, 0, none⟩))).alloc (.cells #[.pointer none, .pointer none, .bool false, .int .i64 0] t)) B (upd N (kid a n s) (n + 1) (some w.heap.size)) C := by
  have K := h.key _ _ _ hb
  have P := h.place _ _ _ hb
  have hlt := P.lt
  have al : ∀ k, k < w.heap.size → ((w.setCell ⟨b, s, none⟩ (.pointer (some ⟨w.heap.size, 0, none⟩))).alloc (.cells #[.pointer none, .pointer none, .bool false, .int .i64 0] t)).heap[k]? = (w.setCell ⟨b, s, none⟩ (.pointer (some ⟨w.heap.size, 0, none⟩))).heap[k]? := by
    intro k hk
    exact ((Below.refl w.heap.size _).alloc (by simp) _).block k hk
  refine h.hang hb hn hs (some w.heap.size) ((P.turn s hs (some w.heap.size)).of_block (al b hlt)) (fun k hk1 hk2 => by rw [al k hk1, heap_setCell _ _ _ _ _ hk2]) (fun c hc => ?_) ?_ ?_ (h.gone _ _ hk)
  · cases hc
    refine ⟨?_, Nat.le_refl _⟩
    have e : w.heap.size = (w.setCell ⟨b, s, none⟩ (.pointer (some ⟨w.heap.size, 0, none⟩))).heap.size := by simp
    generalize (w.setCell ⟨b, s, none⟩ (.pointer (some ⟨w.heap.size, 0, none⟩))) = w5 at e
    rw [e]
    exact ⟨by simp [go_sem, adr], by simp [go_sem, adr], by simp [go_sem], by simp [go_sem], fun o ho => by simp [go_sem]⟩
  · exact h.none_below (kid_key K hn hs) hk 0 (by omega)
  · exact h.none_below (kid_key K hn hs) hk 1 (by omega)
theorem blk_upd {N : Nat → Nat → Option Nat} {a n c b : Nat} (h : Blk (upd N a n (some c)) b) : Blk N b ∨ b = c := by
  obtain ⟨x, y, h⟩ := h
  by_cases e : x = a ∧ y = n
  · rw [e.1, e.2, upd_self] at h
    cases h
    exact .inr rfl
  · rw [upd_ne _ _ _ _ _ _ e] at h
    exact .inl ⟨x, y, h⟩
set_option maxHeartbeats 400000 in
theorem set_nil (A L v : Int) (w : World) : Calls Try.prog 11 #[.pointer none, .agg #[.int .u32 A, .int .i64 L], .int .i64 v] w fun e w' => e = .returned (.bool false) ∧ Below w.heap.size w w' := by
  go_enter Try.func11, Try.ntmps11
  go_wp2
  go_ret
  exact ⟨rfl, (Below.refl _ _).alloc (Nat.le_refl _) _⟩
set_option maxHeartbeats 400000 in
theorem set_wrong (A : Nat) (L v : Int) (B : Nat) (w : World) (hA : A < 4294967296) (hr : rightB A L = false) : Calls Try.prog 11 #[.pointer (some ⟨B, 0, none⟩), pfx A L, .int .i64 v] w fun e w' => e = .returned (.bool false) ∧ Below w.heap.size w w' := by
  have HR := hide hr
  clear hr
  unfold pfx
  go_enter Try.func11, Try.ntmps11
  go_wp2_with fail
  refine (tright_any A L _ hA).mono ?_
  rw [HR.out]
  rintro e w1 ⟨rfl, hb⟩
  have HB : Hid (Below w.heap.size w w1) := ((Below.refl _ _).alloc (Nat.le_refl _) _).trans (hb.mono (by simp))
  clear hb
  go_wp2
  go_ret
  exact ⟨rfl, HB.out⟩
set_option maxHeartbeats 1600000 in
theorem set_right (A n B : Nat) (v : Int) (w : World) (N : Nat → Nat → Option Nat) (C : Nat → Nat → Option Int) (hA : A < 4294967296) (hr : rightB A n = true) (ht : TrieIs w B N C) :
    Calls Try.prog 11 #[.pointer (some ⟨B, 0, none⟩), pfx A n, .int .i64 v] w fun e w' => e = .returned (.bool true) ∧ ∃ N', TrieIs w' B N' (upd C A n (some v)) ∧ Keeps (Blk N) w w' ∧ ∀ b, Blk N' b → Blk N b ∨ w.heap.size ≤ b := by
  obtain ⟨n', en, hn, hcut⟩ := rightB_len hr
  obtain rfl : n = n' := by omega
  clear en
  have HR := hide hr
  have HT := hide ht
  clear hr ht
  unfold pfx
  go_enter Try.func11, Try.ntmps11
  go_wp2_with fail
  refine (tright_any A n _ hA).mono ?_
  rw [HR.out]
  rintro e w1 ⟨rfl, hb⟩
  have HB : Hid (Below w.heap.size w w1) := ((Below.refl _ _).alloc (Nat.le_refl _) _).trans (hb.mono (by simp))
  have c0 : w1.cell? ⟨w.heap.size, 0, none⟩ = some (.int .u32 (A : Int)) := by rw [hb.cell (p := ⟨w.heap.size, 0, none⟩) (by simp)]; simp [go_sem]
  have c1 : w1.cell? ⟨w.heap.size, 1, none⟩ = some (.int .i64 (n : Int)) := by rw [hb.cell (p := ⟨w.heap.size, 1, none⟩) (by simp)]; simp [go_sem]
  have hz : w.heap.size < w1.heap.size := by have := hb.size; simp at this; omega
  have HT1 : Hid (TrieIs w1 B N C) := HT.out.later HB.out
  have HX : Hid (∀ b, Blk N b → b ≠ w.heap.size) := fun b h1 => by have := HT.out.lt b h1; omega
  clear hb
  have H0 : Hid (N (cutTo A 0) 0 = some B) := by rw [cutTo_none A hA]; exact HT1.out.root
  have HC := hide hcut
  clear hcut
  go_wp2
  go_loopw [7, 22] (fun at_ i wq => ∃ (k b : Nat) (M : Nat → Nat → Option Nat), k ≤ n ∧ at_ = .pointer (some ⟨b, 0, none⟩) ∧ i = .int .i64 k ∧ Hid (M (cutTo A k) k = some b) ∧ Hid (TrieIs wq B M C) ∧ Hid (Keeps (Blk N) w1 wq) ∧ Hid (∀ b, Blk M b → Blk N b ∨ w1.heap.size ≤ b) ∧ wq.cell? ⟨w.heap.size, 0, none⟩ = some (.int .u32 (A : Int)) ∧ wq.cell? ⟨w.heap.size, 1, none⟩ = some (.int .i64 (n : Int))) (fun _ i _ => n - (intOf i).toNat)
  case atStart => exact ⟨0, B, N, Nat.zero_le _, rfl, rfl, H0, HT1, Keeps.refl _ _, fun b h => .inl h, c0, c1⟩
  case round =>
    clear c0 c1 HT1
    obtain ⟨k, b, M, hk, rfl, rfl, HM, HT1, HK, HS, c0, c1⟩ := hrel
    have hbz : b < wr.heap.size := HT1.out.lt b ⟨_, _, HM.out⟩
    have hwz : w.heap.size < wr.heap.size := Nat.lt_of_lt_of_le hz HK.out.size
    have HN : Hid (b ≠ w.heap.size) := by
      rcases HS.out b ⟨_, _, HM.out⟩ with h | h
      · exact HX.out b h
      · show b ≠ w.heap.size; omega
    by_cases hlt : k < n
    · have hk1 : (k : Int) < (n : Int) := by omega
      have hk32 : k < 32 := by omega
      have cs : wr.cell? ⟨b, bitAt A k, none⟩ = some (.pointer (adr (M (cutTo A (k + 1)) (k + 1)))) := HT1.out.step A k b hk32 HM.out
      have fz : wr.frozen? ⟨b, bitAt A k, none⟩ = false := (HT1.out.place _ _ _ HM.out).fz _ (by have := bitAt_lt A k; omega)
      have HKid : Hid (kid (cutTo A k) k (bitAt A k) = cutTo A (k + 1)) := kid_cut A k hk32
      go_wp2_with fail
      refine (bitof_in A k _ hk32).mono ?_
      rintro e w2 ⟨rfl, rfl⟩
      have hb2 := bitAt_lt A k
      generalize bitAt A k = s at *
      have hbi : ((s : Nat) : Int) < 2 := by omega
      cases hM : M (cutTo A (k + 1)) (k + 1) with
      | none =>
        rw [hM, adr_none] at cs
        have HG : Hid (TrieIs ((w2.setCell ⟨b, s, none⟩ (.pointer (some ⟨w2.heap.size, 0, none⟩))).alloc (.cells #[.pointer none, .pointer none, .bool false, .int .i64 0] 53)) B (upd M (cutTo A (k + 1)) (k + 1) (some w2.heap.size)) C) := by
          have := HT1.out.grow 53 HM.out hk32 hb2 (by rw [HKid.out]; exact hM)
          rw [HKid.out] at this
          exact this
        clear hM
        go_wp2
        refine ⟨⟨k + 1, w2.heap.size, upd M (cutTo A (k + 1)) (k + 1) (some w2.heap.size), by omega, rfl, by go_num, upd_self _ _ _ _, HG, ?_, ?_, ?_, ?_⟩, by simp [intOf]; omega⟩
        · exact (HK.out.setCell _ _ _ (HS.out b ⟨_, _, HM.out⟩)).alloc _
        · intro d hd
          rcases blk_upd hd with h | h
          · exact HS.out d h
          · right; rw [h]; exact HK.out.size
        · rw [World.cell?_alloc_lt _ _ _ (by simpa using hwz), World.cell?_of_block (w := w2) (heap_setCell _ _ _ _ _ (fun h => HN.out h.symm))]; exact c0
        · rw [World.cell?_alloc_lt _ _ _ (by simpa using hwz), World.cell?_of_block (w := w2) (heap_setCell _ _ _ _ _ (fun h => HN.out h.symm))]; exact c1
      | some c =>
        rw [hM, adr_some] at cs
        have HM2 := hide hM
        clear hM
        go_wp2
        exact ⟨⟨k + 1, c, M, by omega, rfl, by go_num, HM2, HT1, HK, HS, c0, c1⟩, by simp [intOf]; omega⟩
    · obtain rfl : k = n := by omega
      have d1 : decide ((k : Int) < (k : Int)) = false := decide_eq_false (by omega)
      clear hlt hk
      have HM3 : Hid (M A k = some b) := by have := HM.out; rw [HC.out] at this; exact this
      have p := HT1.out.place _ _ _ HM3.out
      have c2 := p.c2
      have c3 := p.c3
      have f2 := p.fz 2 (by omega)
      have f3 := p.fz 3 (by omega)
      clear p
      go_wp2
      go_ret
      refine ⟨rfl, M, HT1.out.put HM3.out (some v), ?_, fun d hd => ?_⟩
      · have kw : Keeps (Blk N) w w1 := Keeps.of_below HB.out _
        refine kw.trans ((HK.out.setCell _ _ _ (HS.out b ⟨_, _, HM3.out⟩)).setCell _ _ _ (HS.out b ⟨_, _, HM3.out⟩)) fun _ _ h => h
      · rcases HS.out d hd with h | h
        · exact .inl h
        · exact .inr (by omega)
/-- Set of any prefix. -/
theorem set_any (A B : Nat) (L v : Int) (w : World) (N : Nat → Nat → Option Nat) (C : Nat → Nat → Option Int) (hA : A < 4294967296) (ht : TrieIs w B N C) :
    Calls Try.prog 11 #[.pointer (some ⟨B, 0, none⟩), pfx A L, .int .i64 v] w fun e w' => e = .returned (.bool (rightB A L)) ∧ ∃ N', TrieIs w' B N' (if rightB A L then upd C A L.toNat (some v) else C) ∧ Keeps (Blk N) w w' ∧ ∀ b, Blk N' b → Blk N b ∨ w.heap.size ≤ b := by
  cases hr : rightB A L with
  | false =>
    refine (set_wrong A L v B w hA hr).mono ?_
    rintro e w' ⟨rfl, hb⟩
    exact ⟨rfl, N, ht.later hb, Keeps.of_below hb _, fun b h => .inl h⟩
  | true =>
    obtain ⟨n, rfl, _, _⟩ := rightB_len hr
    exact set_right A n B v w N C hA hr ht
end Go.Proofs.Ytfecknbneonidaa
