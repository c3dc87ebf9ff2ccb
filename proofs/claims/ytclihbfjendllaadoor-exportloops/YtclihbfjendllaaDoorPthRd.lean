/- The document's Length, First and HasAS. -/
import Derived.Test.YtclihbfjendllaaDoorKAb
namespace Go.Proofs.YtclihbfjendllaaDoor
open Go.RowKit
set_option maxRecDepth 100000

set_option maxHeartbeats 800000 in
theorem rlen_some (b off n cap : Nat) (ss : List (Bool × List Int)) (w : World) (hn : ss.length = n) (hsum : n + sumP ss ≤ 100000) (hc : ∀ i s, ss[i]? = some s → w.cell? ⟨b, off + i * 2, none⟩ = some (.bool s.1) ∧ ∃ a' c', w.cell? ⟨b, off + i * 2 + 1, none⟩ = some (.slice a' s.2.length c') ∧ IRd w a' s.2) :
    Calls Tryd.prog 14 #[.slice (some ⟨b, off, none⟩) n cap] w fun e w' => e = .returned (.int .i64 (lenP ss : Int)) ∧ w' = w := by
  have HC := hide hc
  have HN := hide hn
  clear hc hn
  go_enter Tryd.func14, Tryd.ntmps14
  go_wp2
  go_loop [3, 4] (fun t i => ∃ k x : Nat, k ≤ n ∧ i = .int .i64 k ∧ t = .int .i64 (x : Int) ∧ Hid (x = lenP (ss.take k))) (fun _ i => n - (intOf i).toNat)
  case atStart => exact ⟨0, 0, Nat.zero_le _, rfl, rfl, rfl⟩
  case round =>
    obtain ⟨k, x, hk, rfl, rfl, HX⟩ := hrel
    by_cases hlt : k < n
    · have hkp : k < ss.length := by rw [HN.out]; exact hlt
      obtain ⟨c0, a', c', c1, _⟩ := HC.out k ss[k] (List.getElem?_eq_getElem hkp)
      have HT : Hid (lenP (ss.take (k + 1)) = lenP (ss.take k) + (if (ss[k]).1 then 1 else (ss[k]).2.length)) := by show lenP (ss.take (k + 1)) = _; rw [List.take_succ_eq_append_getElem hkp, lenP_snoc]
      have hx : x ≤ 100000 := by have := lenP_take ss k; rw [HX.out]; omega
      have hl : (ss[k]).2.length ≤ 100000 := by have := sumP_mem ss _ (List.getElem_mem hkp); omega
      generalize (ss[k]).1 = b1 at *
      generalize (ss[k]).2.length = l at *
      have hk0 : (0 : Int) ≤ (k : Int) := Int.natCast_nonneg _
      have hk1 : (k : Int) < (n : Int) := by omega
      cases b1 with
      | true =>
        go_wp2
        exact ⟨⟨k + 1, x + 1, by omega, by go_num, by go_num, by show x + 1 = _; rw [HT.out, HX.out]; simp⟩, by simp [intOf]; omega⟩
      | false =>
        go_wp2
        exact ⟨⟨k + 1, x + l, by omega, by go_num, by go_num, by show x + l = _; rw [HT.out, HX.out]; simp⟩, by simp [intOf]; omega⟩
    · go_wp2
      go_ret
      exact ⟨ret_int (by rw [HX.out, List.take_of_length_le (by rw [HN.out]; omega)]), rfl⟩
set_option maxHeartbeats 400000 in
theorem rfirst_none (a : Option Addr) (cap : Nat) (w : World) : Calls Tryd.prog 13 #[.slice a 0 cap] w fun e w' => e = .returned (.tuple #[.int .i64 0, .bool false]) ∧ w' = w := by
  go_enter Tryd.func13, Tryd.ntmps13
  go_wp2
  go_ret2
  exact ⟨rfl, rfl⟩
set_option maxHeartbeats 400000 in
theorem rfirst_set (b off n cap : Nat) (w : World) (hn : 0 < n) (c0 : w.cell? ⟨b, off, none⟩ = some (.bool true)) : Calls Tryd.prog 13 #[.slice (some ⟨b, off, none⟩) n cap] w fun e w' => e = .returned (.tuple #[.int .i64 0, .bool false]) ∧ w' = w := by
  have d0 : ((n : Int) == 0) = false := by simp; omega
  have h0 : (0 : Int) < (n : Int) := by omega
  go_enter Tryd.func13, Tryd.ntmps13
  go_wp2
  go_ret2
  exact ⟨rfl, rfl⟩
set_option maxHeartbeats 400000 in
theorem rfirst_empty (b off n cap : Nat) (a' : Option Addr) (c' : Nat) (w : World) (hn : 0 < n) (c0 : w.cell? ⟨b, off, none⟩ = some (.bool false)) (c1 : w.cell? ⟨b, off + 1, none⟩ = some (.slice a' 0 c')) : Calls Tryd.prog 13 #[.slice (some ⟨b, off, none⟩) n cap] w fun e w' => e = .returned (.tuple #[.int .i64 0, .bool false]) ∧ w' = w := by
  have d0 : ((n : Int) == 0) = false := by simp; omega
  have h0 : (0 : Int) < (n : Int) := by omega
  go_enter Tryd.func13, Tryd.ntmps13
  go_wp2
  go_ret2
  exact ⟨rfl, rfl⟩
set_option maxHeartbeats 400000 in
theorem rfirst_one (b off n cap b2 o2 l c' : Nat) (z : Int) (w : World) (hn : 0 < n) (hl : 0 < l) (c0 : w.cell? ⟨b, off, none⟩ = some (.bool false)) (c1 : w.cell? ⟨b, off + 1, none⟩ = some (.slice (some ⟨b2, o2, none⟩) l c')) (cz : w.cell? ⟨b2, o2, none⟩ = some (.int .i64 z)) : Calls Tryd.prog 13 #[.slice (some ⟨b, off, none⟩) n cap] w fun e w' => e = .returned (.tuple #[.int .i64 z, .bool true]) ∧ w' = w := by
  have d0 : ((n : Int) == 0) = false := by simp; omega
  have d1 : ((l : Int) == 0) = false := by simp; omega
  have h0 : (0 : Int) < (n : Int) := by omega
  have h1 : (0 : Int) < (l : Int) := by omega
  go_enter Tryd.func13, Tryd.ntmps13
  go_wp2
  go_ret2
  exact ⟨rfl, rfl⟩
theorem rfirst_any (a : Option Addr) (cap : Nat) (ss : List (Bool × List Int)) (w : World) (h : PthRd w a ss) : Calls Tryd.prog 13 #[.slice a ss.length cap] w fun e w' => e = .returned (firstV (firstP ss)) ∧ w' = w := by
  match ss, h with
  | [], _ => exact rfirst_none a cap w
  | (true, zs) :: r, h =>
    obtain ⟨b, off, rfl, hc⟩ := h.cells (by simp)
    obtain ⟨c0, _⟩ := hc 0 _ rfl
    exact rfirst_set b off _ cap w (by simp) (by simpa using c0)
  | (false, []) :: r, h =>
    obtain ⟨b, off, rfl, hc⟩ := h.cells (by simp)
    obtain ⟨c0, a', c', c1, _⟩ := hc 0 _ rfl
    exact rfirst_empty b off _ cap a' c' w (by simp) (by simpa using c0) (by simpa using c1)
  | (false, z :: zs) :: r, h =>
    obtain ⟨b, off, rfl, hc⟩ := h.cells (by simp)
    obtain ⟨c0, a', c', c1, hr⟩ := hc 0 _ rfl
    obtain ⟨b2, o2, rfl, hz⟩ := hr (by simp)
    exact rfirst_one b off (r.length + 1) cap b2 o2 (zs.length + 1) c' z w (by omega) (by omega) (by simpa using c0) (by simpa using c1) (by simpa using hz 0 z rfl)
set_option maxHeartbeats 400000 in
theorem rlen_empty (a : Option Addr) (cap : Nat) (w : World) : Calls Tryd.prog 14 #[.slice a 0 cap] w fun e w' => e = .returned (.int .i64 0) ∧ w' = w := by
  go_enter Tryd.func14, Tryd.ntmps14
  go_wp2
  go_loop [3, 4] (fun t i => i = .int .i64 0 ∧ t = .int .i64 0) (fun _ i => 0 - (intOf i).toNat)
  case atStart => exact ⟨rfl, rfl⟩
  case round =>
    obtain ⟨rfl, rfl⟩ := hrel
    go_wp2
    go_ret
    exact ⟨rfl, rfl⟩
theorem rlen_any (a : Option Addr) (cap : Nat) (ss : List (Bool × List Int)) (w : World) (hsum : ss.length + sumP ss ≤ 100000) (h : PthRd w a ss) : Calls Tryd.prog 14 #[.slice a ss.length cap] w fun e w' => e = .returned (.int .i64 (lenP ss : Int)) ∧ w' = w := by
  by_cases h0 : ss = []
  · subst h0; exact rlen_empty a cap w
  · obtain ⟨b, off, rfl, hc⟩ := h.cells (List.length_pos_iff.2 h0)
    exact rlen_some b off _ cap ss w rfl hsum hc
end Go.Proofs.YtclihbfjendllaaDoor
