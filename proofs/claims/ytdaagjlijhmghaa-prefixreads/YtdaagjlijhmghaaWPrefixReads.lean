/- PrefixReads' walk. -/
import Derived.Test.YtdaagjlijhmghaaPfxAn
import Derived.Test.YtdaagjlijhmghaaPfxSm
namespace Go.Proofs.Ytdaagjlijhmghaa
open Go.RowKit
set_option maxRecDepth 100000

theorem decRun_len (f : Nat → Nat) (len : Nat) : ∀ (n i : Nat) (acc : List (Nat × Nat)), len - i ≤ n → i ≤ len → acc.length ≤ i → ∀ ps, decRun f len i acc = some ps → ps.length ≤ len
  | 0, i, acc, hn, hi, ha, ps, h => by
    rw [decRun_end (by omega)] at h
    injection h with h
    subst h
    omega
  | n + 1, i, acc, hn, hi, ha, ps, h => by
    by_cases hlt : i < len
    · cases hk : okAt f len i with
      | false => rw [decRun_no hlt hk] at h; cases h
      | true =>
        rw [decRun_go hlt hk] at h
        exact decRun_len f len n (i + 1 + szOf (f i)) (acc ++ [itemAt f i]) (by omega) (of_decide_eq_true hk).2 (by simp; omega) ps h
    · rw [decRun_end hlt] at h
      injection h with h
      subst h
      omega
theorem decRun_length (f : Nat → Nat) (len : Nat) : ∀ ps, decRun f len 0 [] = some ps → ps.length ≤ len := decRun_len f len len 0 [] (by omega) (Nat.zero_le _) (Nat.le_refl _)
set_option maxHeartbeats 1600000 in
theorem preads_some (a : Option Addr) (len cap : Nat) (f : Nat → Nat) (w : World) (hl : len ≤ 3000) (hlc : len ≤ cap) (hf : ∀ j, j < len → f j < 256) (h : Rw w a len f) :
    Calls Try.prog 6 #[.slice a len cap] w fun e w' => e = .returned (.bool true) ∧ Below w.heap.size w w' := by
  have HLEN := hide (decRun_length f len)
  have H := hide h
  have HF := hide hf
  clear h hf
  have d3 : decide ((3000 : Int) < (len : Int)) = false := decide_eq_false (by omega)
  cases hd : decRun f len 0 [] with
  | none =>
    have HD := hide hd
    clear hd
    go_enter Try.func6, Try.ntmps6
    go_wp2_with fail
    refine (decode_any a len cap f _ (by omega) hlc HF.out H.out).mono ?_
    rw [HD.out]
    rintro e w1 ⟨rfl, hb1⟩
    have HB1 := hide hb1
    clear hb1
    go_wp2_with fail
    refine (read_any a len cap f _ (by omega) hlc HF.out (H.out.below HB1.out)).mono ?_
    rw [HD.out]
    rintro e w2 ⟨rfl, hb2⟩
    have HB2 : Hid (Below w.heap.size w w2) := HB1.out.trans (hb2.mono HB1.out.size)
    clear hb2
    go_wp2_with fail
    refine (answers_any _).mono ?_
    rintro e w3 ⟨rfl, hb3⟩
    have HB3 : Hid (Below w.heap.size w w3) := HB2.out.trans (hb3.mono HB2.out.size)
    clear hb3
    go_wp2_with fail
    refine (samep_empty none none 0 0 _).mono ?_
    rintro e w4 ⟨rfl, m, rfl⟩
    go_wp2
    go_ret
    exact ⟨rfl, below_drewN HB3.out m⟩
  | some ps =>
    have HD := hide hd
    clear hd
    go_enter Try.func6, Try.ntmps6
    go_wp2_with fail
    refine (decode_any a len cap f _ (by omega) hlc HF.out H.out).mono ?_
    rw [HD.out]
    rintro e w1 ⟨⟨v1, rfl, ho1⟩, hb1⟩
    have HB1 := hide hb1
    have HO1 := hide ho1
    clear hb1 ho1
    go_wp2_with fail
    refine (read_any a len cap f _ (by omega) hlc HF.out (H.out.below HB1.out)).mono ?_
    rw [HD.out]
    rintro e w2 ⟨⟨v2, rfl, ho2⟩, hb2⟩
    have HB2 : Hid (Below w.heap.size w w2) := HB1.out.trans (hb2.mono HB1.out.size)
    have HP1 := hide (own_later HO1.out hb2)
    have HP2 := hide ho2
    clear hb2 ho2
    go_wp2_with fail
    refine (answers_any _).mono ?_
    rintro e w3 ⟨rfl, hb3⟩
    have HB3 : Hid (Below w.heap.size w w3) := HB2.out.trans (hb3.mono HB2.out.size)
    have HQ1 := hide (own_later HP1.out hb3)
    have HQ2 := hide (own_later HP2.out hb3)
    clear hb3
    go_wp2_with fail
    refine (samep_any HQ1.out HQ2.out (by have := HLEN.out ps HD.out; omega)).mono ?_
    rintro e w4 ⟨rfl, m, rfl⟩
    go_wp2
    go_ret
    exact ⟨rfl, below_drewN HB3.out m⟩
theorem prefixReads_walk (a0 : Option Addr) (len0 cap0 : Nat) (z0 : List Int) (w : World) (w0 : IsRow .u8 w a0 len0 cap0 z0) : Calls Try.prog 6 #[.slice a0 len0 cap0] w fun e w' => e = .returned (.bool true) ∧ Below w.heap.size w w' := by
  have hrow := rw_of w0
  have hlc : len0 ≤ cap0 := by
    rcases w0 with ⟨_, h1, h2, _⟩ | ⟨x, _, h1, _⟩
    · omega
    · exact h1
  clear w0
  by_cases hlen : 3000 < len0
  · go_enter Try.func6, Try.ntmps6
    go_wp2_with fail
    refine (answers_any _).mono ?_
    rintro e w1 ⟨rfl, hb⟩
    have HB := hide hb
    clear hb
    go_wp2
    go_ret
    exact ⟨rfl, HB.out⟩
  · exact preads_some a0 len0 cap0 (fun i => (z0.getD i 0).toNat) w (by omega) hlc (fun j hj => hrow.2 j hj) hrow.1
end Go.Proofs.Ytdaagjlijhmghaa
