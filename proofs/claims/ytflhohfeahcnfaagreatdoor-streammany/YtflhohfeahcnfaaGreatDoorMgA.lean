/- The program's numberOf, number, oneBehindOther, noteOf. -/
import Derived.Test.YtflhohfeahcnfaaGreatDoorMgP
namespace Go.Proofs.YtflhohfeahcnfaaGreatDoor
open Go.RowKit
set_option maxRecDepth 100000

set_option maxHeartbeats 800000 in
theorem mnumof_any (b o n cap : Nat) (bs : List Nat) (w : World) (hn : bs.length = n) (h4 : n ≤ 4) (hlt : ∀ x ∈ bs, x < 256) (hc : ∀ i, i < n → w.cell? ⟨b, o + i, none⟩ = some (.int .u8 (bs.getD i 0 : Int))) :
    Calls Tryz.prog 41 #[.slice (some ⟨b, o, none⟩) n cap] w fun e w' => e = .returned (.int .i64 (numB bs : Int)) ∧ w' = w := by
  have HC := hide hc
  have HL := hide hlt
  have HN := hide hn
  clear hc hlt hn
  go_enter Tryz.func41, Tryz.ntmps41
  go_wp2
  go_loop [3, 8] (fun u i => ∃ k N : Nat, k ≤ n ∧ i = .int .i64 k ∧ u = .int .i64 (N : Int) ∧ Hid (N = numB (bs.take k))) (fun _ i => n - (intOf i).toNat)
  case atStart => exact ⟨0, 0, Nat.zero_le _, rfl, rfl, rfl⟩
  case round =>
    obtain ⟨k, N, hk, rfl, rfl, HNK⟩ := hrel
    by_cases hlt : k < n
    · have hkl : k < bs.length := by rw [HN.out]; exact hlt
      have ck := HC.out k hlt
      have zk := World.block_lt_of_cell? w _ ck
      simp only at zk
      have hx : bs.getD k 0 < 256 := getD_lt256 HL.out k
      have hN : N < 16777216 := by
        have h9 := numB_lt (bs.take k) (take_lt HL.out k)
        rw [← HNK.out, List.length_take, Nat.min_eq_left (by omega)] at h9
        have h8 : (256 : Nat) ^ k ≤ 256 ^ 3 := Nat.pow_le_pow_right (by omega) (by omega)
        simp only [Nat.reducePow] at h8
        omega
      have HNN : Hid (N * 256 + bs.getD k 0 = numB (bs.take (k + 1))) := by
        show _ = _
        rw [List.take_succ_eq_append_getElem hkl, numB_snoc, ← HNK.out, List.getD_eq_getElem?_getD, List.getElem?_eq_getElem hkl]; rfl
      have hor := shl_or N (bs.getD k 0) hN hx
      generalize bs.getD k 0 = x at *
      clear HNK
      have hk0 : (0 : Int) ≤ (k : Int) := Int.natCast_nonneg _
      have hk1 : (k : Int) < (n : Int) := by omega
      go_wp2
      exact ⟨⟨k + 1, N * 256 + x, by omega, by go_num, rfl, HNN⟩, by simp [intOf]; omega⟩
    · have hke : bs.take k = bs := List.take_of_length_le (by rw [HN.out]; omega)
      go_wp2
      go_ret
      exact ⟨ret_int (by rw [HNK.out, hke]), rfl⟩
/-- A number's last bytes, the highest first. -/
def numBytes (n s : Nat) : List Nat := (List.range s).map fun i => n / 256 ^ (s - 1 - i) % 256
theorem numBytes_length (n s : Nat) : (numBytes n s).length = s := by simp [numBytes]
theorem numBytes_lt (n s : Nat) : ∀ x ∈ numBytes n s, x < 256 := by
  intro x hx
  obtain ⟨i, _, rfl⟩ := List.mem_map.1 hx
  omega
/-- The bytes of all parts, in their order. -/
def flatB (ps : List (Option Addr × Nat × List Nat)) : List Nat := (ps.map fun x => x.2.2).flatten
theorem flatB_snoc {ps : List (Option Addr × Nat × List Nat)} {k : Nat} {x : Option Addr × Nat × List Nat} (h : ps[k]? = some x) : flatB (ps.take (k + 1)) = flatB (ps.take k) ++ x.2.2 := by
  rw [List.take_add_one, h]; simp [flatB]
theorem flatB_le (ps : List (Option Addr × Nat × List Nat)) (k : Nat) : (flatB (ps.take k)).length ≤ (flatB ps).length := by
  have h : flatB ps = flatB (ps.take k) ++ flatB (ps.drop k) := by
    unfold flatB
    rw [← List.flatten_append, ← List.map_append, List.take_append_drop]
  rw [h, List.length_append]
  omega
theorem flatB_lt {w : World} {ps : List (Option Addr × Nat × List Nat)} (h : ∀ x ∈ ps, BRd w x.1 x.2.2) : ∀ y ∈ flatB ps, y < 256 := by
  intro y hy
  simp only [flatB, List.mem_flatten, List.mem_map] at hy
  obtain ⟨l, ⟨x, hx, rfl⟩, hl⟩ := hy
  exact (h x hx).2 y hl
section
attribute [local go_sem ↓] kept_append
set_option maxHeartbeats 1600000 in
theorem obo_any (g o c : Nat) (ps : List (Option Addr × Nat × List Nat)) (w : World) (hps : ps.length ≤ 1000) (hc : ∀ i x, ps[i]? = some x → w.cell? ⟨g, o + i, none⟩ = some (.slice x.1 x.2.2.length x.2.1)) (hb : ∀ x ∈ ps, BRd w x.1 x.2.2) (hl : (flatB ps).length ≤ 100000) :
    Calls Tryz.prog 39 #[.slice (some ⟨g, o, none⟩) ps.length c] w fun e w' => ∃ v, e = .returned v ∧ w'.ownsRow w.heap.size 5 1 v (flatB ps).length (bcells (flatB ps)) ∧ Below w.heap.size w w' := by
  have HC := hide hc
  have HB := hide hb
  have HL := hide hl
  clear hc hb hl
  obtain ⟨n, hn⟩ : ∃ n, n = ps.length := ⟨_, rfl⟩
  have HN := hide hn
  rw [← hn] at hps ⊢
  clear hn
  go_enter Tryz.func39, Tryz.ntmps39
  go_wp2
  go_loopw [3, 8] (fun v i wq => ∃ k : Nat, k ≤ n ∧ i = .int .i64 k ∧ Hid (wq.ownsRow w.heap.size 5 1 v (flatB (ps.take k)).length (bcells (flatB (ps.take k)))) ∧ Hid (Below w.heap.size w wq)) (fun _ i _ => n - (intOf i).toNat)
  case atStart => exact ⟨0, Nat.zero_le _, rfl, own_nil _ _ _ _, Below.refl _ _⟩
  case round =>
    obtain ⟨k, hk, rfl, HO, HW⟩ := hrel
    by_cases hlt : k < n
    · have hkl : k < ps.length := by rw [← HN.out]; exact hlt
      have hx := List.getElem?_eq_getElem hkl
      generalize ps[k] = x at hx
      have ck0 := HC.out k x hx
      have zk0 := World.block_lt_of_cell? w _ ck0
      have ck : wr.cell? ⟨g, o + k, none⟩ = some (.slice x.1 x.2.2.length x.2.1) := by rw [HW.out.cell (p := ⟨g, o + k, none⟩) zk0]; exact ck0
      have zk := World.block_lt_of_cell? wr _ ck
      simp only at zk
      have hsum := flatB_le ps (k + 1)
      rw [flatB_snoc hx, List.length_append] at hsum
      obtain ⟨v', w', hr, ho, hb2⟩ := app_any x.2.2 x.1 x.2.1 HO.out HW.out.size (by have := HL.out; omega) ((HB.out x (List.mem_of_getElem? hx)).below HW.out)
      rw [← flatB_snoc hx] at ho
      have HR := hide hr
      have HO2 := hide ho
      have HB2 := hide (HW.out.trans hb2)
      clear hr ho hb2 hsum ck0 zk0 HO hx hkl
      obtain ⟨xa, xc, xb⟩ := x
      simp only at *
      generalize xb.length = m at *
      have hk0 : (0 : Int) ≤ (k : Int) := Int.natCast_nonneg _
      have hk1 : (k : Int) < (n : Int) := by omega
      go_wp2_with (refine kept_append_intro _ _ _ _ v' (w' := w') (by rfl) (by rfl) (by exact HR.out) ?_)
      exact ⟨⟨k + 1, by omega, by go_num, HO2, HB2⟩, by simp [intOf]; omega⟩
    · have hke : ps.take k = ps := List.take_of_length_le (by rw [← HN.out]; omega)
      have HO2 := HO
      rw [hke] at HO2
      clear hke HO
      go_wp2
      go_ret
      exact ⟨_, rfl, HO2.out, HW.out⟩
end
end Go.Proofs.YtflhohfeahcnfaaGreatDoor
