/- PathReads' walk. -/
import Derived.Test.YtnfokbpnjhhiiaaPthAn
import Derived.Test.YtnfokbpnjhhiiaaPthX
import Derived.Test.YtnfokbpnjhhiiaaPthRt
import Derived.Test.YtnfokbpnjhhiiaaSmB
namespace Go.Proofs.Ytnfokbpnjhhiiaa
open Go.RowKit
set_option maxRecDepth 100000

/-- A row of the call's own beside one that is read, of the same bytes. -/
theorem same_at {w : World} {B : Nat} {v : Value} (a : Option Addr) (len cap : Nat) (f : Nat → Nat) (h1 : w.ownsRow B 5 1 v len (bcells (bytesAt f 0 len))) (h2 : Rw w a len f) (hl : len ≤ 100000) :
    Calls Try.prog 13 #[v, .slice a len cap] w fun e w' => e = .returned (.bool true) ∧ ∃ m, w' = w.drewN m := by
  by_cases h0 : len = 0
  · subst h0
    obtain ⟨a1, c1, rfl⟩ := own_shape h1
    exact sameq_empty a1 a c1 cap w
  · obtain ⟨b, off, rfl, hc⟩ := h2.2 (by omega)
    obtain ⟨g1, c1, rfl, _, _⟩ := h1.form (by omega)
    refine sameq_some g1 0 b off len c1 cap f w (by omega) (fun i hi => ?_) hc
    rw [Nat.zero_add, h1.cellAt i (by omega)]
    simp [bcells, bytesAt, hi]
set_option maxHeartbeats 1600000 in
theorem reads_some (a : Option Addr) (len cap : Nat) (f : Nat → Nat) (w : World) (hl : len ≤ 3000) (hlc : len ≤ cap) (hf : ∀ j, j < len → f j < 256) (h : Rw w a len f) :
    Calls Try.prog 4 #[.slice a len cap] w fun e w' => e = .returned (.bool true) ∧ Below w.heap.size w w' := by
  have H := hide h
  have HF := hide hf
  clear h hf
  have d3 : decide ((3000 : Int) < (len : Int)) = false := decide_eq_false (by omega)
  cases hd : segsRun f len 0 [] with
  | none =>
    have HD := hide hd
    clear hd
    go_enter Try.func4, Try.ntmps4
    go_wp2_with fail
    refine (pdecode_any a len cap f _ (by omega) hlc HF.out H.out).mono ?_
    rw [HD.out]
    rintro e w1 ⟨rfl, hb1⟩
    have HB1 := hide hb1
    clear hb1
    go_wp2_with fail
    refine (readp_any a len cap f _ (by omega) hlc HF.out (H.out.below HB1.out)).mono ?_
    rw [HD.out]
    rintro e w2 ⟨rfl, hb2⟩
    have HB2 : Hid (Below w.heap.size w w2) := HB1.out.trans (hb2.mono HB1.out.size)
    clear hb2
    go_wp2_with fail
    refine (answers_any _).mono ?_
    rintro e w3 ⟨rfl, hb3⟩
    have HB3 : Hid (Below w.heap.size w w3) := HB2.out.trans (hb3.mono HB2.out.size)
    clear hb3
    go_wp2_with fail
    refine (samepath_empty none none 0 0 _).mono ?_
    rintro e w4 ⟨rfl, m, rfl⟩
    go_wp2
    go_ret
    exact ⟨rfl, below_drewN HB3.out m⟩
  | some ss =>
    have HD := hide hd
    obtain ⟨hg, hen⟩ := read_enc HF.out hd
    have hs64 := goodP_sum hg
    have hl64 := goodP_len hg
    have HEN := hide hen
    have HSZ : Hid (ss.length ≤ 1000000 ∧ (∀ s ∈ ss, s.2.length ≤ 1000000) ∧ ss.length + sumP ss ≤ 100000) := ⟨by omega, fun s hs9 => by have := sumP_mem ss s hs9; omega, by omega⟩
    clear hd hg hen hs64 hl64
    go_enter Try.func4, Try.ntmps4
    go_wp2_with fail
    refine (pdecode_any a len cap f _ (by omega) hlc HF.out H.out).mono ?_
    rw [HD.out]
    rintro e w1 ⟨⟨v1, rfl, ho1⟩, hb1⟩
    obtain ⟨a1, c1, rfl, hrd1⟩ := ho1.rd HSZ.out.1 HSZ.out.2.1
    have HB1 := hide hb1
    have HR1 := hide hrd1
    clear hb1 ho1 hrd1
    go_wp2_with fail
    refine (readp_any a len cap f _ (by omega) hlc HF.out (H.out.below HB1.out)).mono ?_
    rw [HD.out]
    rintro e w2 ⟨⟨v2, rfl, ho2⟩, hb2⟩
    obtain ⟨a2, c2, rfl, hrd2⟩ := ho2.rd HSZ.out.1 HSZ.out.2.1
    have HB2 : Hid (Below w.heap.size w w2) := HB1.out.trans (hb2.mono HB1.out.size)
    have HP1 := hide (HR1.out.below hb2)
    have HP2 := hide hrd2
    clear hb2 ho2 hrd2 HR1 HB1
    go_wp2_with fail
    refine (answers_any _).mono ?_
    rintro e w3 ⟨rfl, hb3⟩
    have HB3 : Hid (Below w.heap.size w w3) := HB2.out.trans (hb3.mono HB2.out.size)
    have HQ1 := hide (HP1.out.below hb3)
    have HQ2 := hide (HP2.out.below hb3)
    clear hb3 HP1 HP2 HB2
    go_wp2_with fail
    refine (samepath_any a1 a2 c1 c2 ss ss _ HSZ.out.2.2 (by have := HSZ.out.2.2; omega) HQ1.out HQ2.out).mono ?_
    rw [eqP_self]
    rintro e w4 ⟨rfl, m, rfl⟩
    have HB4 := hide (below_drewN HB3.out m)
    have HQ4 := hide (HQ1.out.below (below_drewN (Below.refl _ _) m))
    generalize w3.drewN m = w4 at *
    clear HQ1 HQ2 HB3
    go_wp2_with fail
    refine (encode_any a1 c1 ss w4 HSZ.out.2.2 HQ4.out).mono ?_
    rw [HEN.out, bytesAt_length]
    rintro e w5 ⟨v5, rfl, ho5, hb5⟩
    have HO5 := hide ho5
    have HB5 : Hid (Below w.heap.size w w5) := HB4.out.trans (hb5.mono HB4.out.size)
    clear ho5 hb5 HB4 HQ4
    go_wp2_with fail
    refine (same_at a len cap f HO5.out (H.out.below HB5.out) (by omega)).mono ?_
    rintro e w6 ⟨rfl, m6, rfl⟩
    go_wp2
    go_ret
    exact ⟨rfl, below_drewN HB5.out m6⟩
theorem pathReads_walk (a0 : Option Addr) (len0 cap0 : Nat) (z0 : List Int) (w : World) (w0 : IsRow .u8 w a0 len0 cap0 z0) : Calls Try.prog 4 #[.slice a0 len0 cap0] w fun e w' => e = .returned (.bool true) ∧ Below w.heap.size w w' := by
  have hrow := rw_of w0
  have hlc : len0 ≤ cap0 := by
    rcases w0 with ⟨_, h1, h2, _⟩ | ⟨x, _, h1, _⟩
    · omega
    · exact h1
  clear w0
  by_cases hlen : 3000 < len0
  · go_enter Try.func4, Try.ntmps4
    go_wp2_with fail
    refine (answers_any _).mono ?_
    rintro e w1 ⟨rfl, hb⟩
    have HB := hide hb
    clear hb
    go_wp2
    go_ret
    exact ⟨rfl, HB.out⟩
  · exact reads_some a0 len0 cap0 (fun i => (z0.getD i 0).toNat) w (by omega) hlc (fun j hj => hrow.2 j hj) hrow.1
end Go.Proofs.Ytnfokbpnjhhiiaa
