/- Is a path not too long? -/
import Derived.Test.YtnfokbpnjhhiiaaPthRd
namespace Go.Proofs.Ytnfokbpnjhhiiaa
open Go.RowKit
set_option maxRecDepth 100000

/-- Is a path not too long? -/
def smallP (ss : List (Bool × List Int)) : Bool := decide (ss.length + sumP ss < 3000)
set_option maxHeartbeats 1600000 in
theorem small_some (b off n cap : Nat) (ss : List (Bool × List Int)) (w : World) (hn : ss.length = n) (hb : n ≤ 1152921504606846976) (hz : ∀ s ∈ ss, s.2.length ≤ 1152921504606846976) (hc : ∀ i s, ss[i]? = some s → w.cell? ⟨b, off + i * 2, none⟩ = some (.bool s.1) ∧ ∃ a' c', w.cell? ⟨b, off + i * 2 + 1, none⟩ = some (.slice a' s.2.length c') ∧ IRd w a' s.2) :
    Calls Try.prog 8 #[.slice (some ⟨b, off, none⟩) n cap] w fun e w' => e = .returned (.bool (smallP ss)) ∧ w' = w := by
  have HC := hide hc
  have HN := hide hn
  have HZ := hide hz
  clear hc hn hz
  go_enter Try.func8, Try.ntmps8
  go_wp2
  go_loop [3, 4] (fun t i => ∃ k x : Nat, k ≤ n ∧ i = .int .i64 k ∧ t = .int .i64 (x : Int) ∧ x ≤ 2305843009213693952 ∧ Hid (x = n + sumP (ss.take k))) (fun _ i => n - (intOf i).toNat)
  case atStart => exact ⟨0, n, Nat.zero_le _, rfl, rfl, by omega, by show n = n + sumP (ss.take 0); rfl⟩
  case round =>
    obtain ⟨k, x, hk, rfl, rfl, hx, HX⟩ := hrel
    by_cases hlt : k < n
    · have hk0 : (0 : Int) ≤ (k : Int) := Int.natCast_nonneg _
      have hk1 : (k : Int) < (n : Int) := by omega
      by_cases hx3 : x < 3000
      · have hkp : k < ss.length := by rw [HN.out]; exact hlt
        obtain ⟨c0, a', c', c1, _⟩ := HC.out k ss[k] (List.getElem?_eq_getElem hkp)
        have HT : Hid (sumP (ss.take (k + 1)) = sumP (ss.take k) + (ss[k]).2.length) := by show sumP (ss.take (k + 1)) = _; rw [List.take_succ_eq_append_getElem hkp, sumP_snoc]
        have hl : (ss[k]).2.length ≤ 1152921504606846976 := HZ.out _ (List.getElem_mem hkp)
        generalize (ss[k]).2.length = l at *
        have j3 : (x : Int) < 3000 := by omega
        clear hx hx3
        go_wp2
        exact ⟨⟨k + 1, x + l, by omega, by go_num, by go_num, by omega, by show x + l = _; rw [HT.out, HX.out]; omega⟩, by simp [intOf]; omega⟩
      · have HS : Hid (smallP ss = false) := decide_eq_false (by have := sumP_take ss k; have := HX.out; have := HN.out; omega)
        have j3 : decide ((x : Int) < 3000) = false := decide_eq_false (by omega)
        clear hx hx3
        go_wp2
        go_ret
        exact ⟨by rw [HS.out]; rfl, rfl⟩
    · have HS : Hid (smallP ss = decide ((x : Int) < 3000)) := by
        show smallP ss = _
        have h9 := HX.out
        rw [List.take_of_length_le (by rw [HN.out]; omega)] at h9
        unfold smallP
        rw [HN.out, ← h9]
        exact decide_eq_decide.2 (by omega)
      generalize hd : decide ((x : Int) < 3000) = d at *
      go_wp2
      go_ret
      exact ⟨by rw [HS.out]; rfl, rfl⟩
set_option maxHeartbeats 400000 in
theorem small_empty (a : Option Addr) (cap : Nat) (w : World) : Calls Try.prog 8 #[.slice a 0 cap] w fun e w' => e = .returned (.bool true) ∧ w' = w := by
  go_enter Try.func8, Try.ntmps8
  go_wp2
  go_loop [3, 4] (fun t i => i = .int .i64 0 ∧ t = .int .i64 0) (fun _ i => 0 - (intOf i).toNat)
  case atStart => exact ⟨rfl, rfl⟩
  case round =>
    obtain ⟨rfl, rfl⟩ := hrel
    go_wp2
    go_ret
    exact ⟨rfl, rfl⟩
theorem small_any (a : Option Addr) (cap : Nat) (ss : List (Bool × List Int)) (w : World) (hb : ss.length ≤ 1152921504606846976) (hz : ∀ s ∈ ss, s.2.length ≤ 1152921504606846976) (h : PthRd w a ss) : Calls Try.prog 8 #[.slice a ss.length cap] w fun e w' => e = .returned (.bool (smallP ss)) ∧ w' = w := by
  by_cases h0 : ss = []
  · subst h0; exact small_empty a cap w
  · obtain ⟨b, off, rfl, hc⟩ := h.cells (List.length_pos_iff.2 h0)
    exact small_some b off _ cap ss w rfl hb hz hc
end Go.Proofs.Ytnfokbpnjhhiiaa
