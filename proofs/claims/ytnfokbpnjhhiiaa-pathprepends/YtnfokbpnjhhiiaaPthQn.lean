/- The program's Encode. -/
import Derived.Test.YtnfokbpnjhhiiaaPthQe
namespace Go.Proofs.Ytnfokbpnjhhiiaa
open Go.RowKit
set_option maxRecDepth 100000

set_option maxHeartbeats 1600000 in
theorem encode_some (b off n cap : Nat) (ss : List (Bool × List Int)) (w : World) (hn : ss.length = n) (hg : goodP ss = true) (hc : ∀ i s, ss[i]? = some s → w.cell? ⟨b, off + i * 2, none⟩ = some (.bool s.1) ∧ ∃ a' c', w.cell? ⟨b, off + i * 2 + 1, none⟩ = some (.slice a' s.2.length c') ∧ IRd w a' s.2) :
    Calls Try.prog 10 #[.slice (some ⟨b, off, none⟩) n cap] w fun e w' => ∃ v, e = .returned v ∧ w'.ownsRow w.heap.size 5 1 v (encSegs ss).length (bcells (encSegs ss)) ∧ Below w.heap.size w w' := by
  have hn64 : n ≤ 64 := by have := goodP_len hg; omega
  have hs64 := goodP_sum hg
  have HG0 := hide (good_some b off n cap ss w hn (by omega) hc)
  rw [hg] at HG0
  have HC := hide hc
  have HN := hide hn
  have HG := hide hg
  clear hc hn hg
  go_enter Try.func10, Try.ntmps10
  go_wp2_with fail
  refine HG0.out.mono ?_
  rintro e w1 ⟨rfl, hb1⟩
  have HB1 := hide hb1
  clear hb1 HG0
  go_wp2
  go_loopw [3, 11] (fun u i wq => ∃ k : Nat, k ≤ n ∧ i = .int .i64 k ∧ Hid (wq.ownsRow w.heap.size 5 1 u (encSegs (ss.take k)).length (bcells (encSegs (ss.take k)))) ∧ Hid (Below w.heap.size w wq)) (fun _ i _ => n - (intOf i).toNat)
  case atStart => exact ⟨0, Nat.zero_le _, rfl, own_nil _ _ _ _, HB1⟩
  case round =>
    obtain ⟨k, hk, rfl, HO, HB⟩ := hrel
    clear HB1
    by_cases hlt : k < n
    · have hkp : k < ss.length := by rw [HN.out]; exact hlt
      obtain ⟨c0, a', c', c1, hr⟩ := HC.out k ss[k] (List.getElem?_eq_getElem hkp)
      obtain ⟨g1, g2, g3⟩ := goodP_seg HG.out (List.getElem_mem hkp)
      have z0 := World.block_lt_of_cell? w _ c0
      simp only at z0
      have HT : Hid (encSegs (ss.take (k + 1)) = encSegs (ss.take k) ++ encSeg ss[k]) := by show encSegs (ss.take (k + 1)) = _; rw [List.take_succ_eq_append_getElem hkp, encSegs_snoc]
      have d0 : wr.cell? ⟨b, off + k * 2, none⟩ = some (.bool (ss[k]).1) := by rw [HB.out.cell (p := ⟨b, off + k * 2, none⟩) z0]; exact c0
      have d1 : wr.cell? ⟨b, off + k * 2 + 1, none⟩ = some (.slice a' (ss[k]).2.length c') := by rw [HB.out.cell (p := ⟨b, off + k * 2 + 1, none⟩) z0]; exact c1
      have hel : (encSegs (ss.take k)).length ≤ 100000 := by
        rw [encSegs_length, List.length_take]
        have := sumP_take ss k
        omega
      obtain ⟨b2, o2, rfl, hcz⟩ := hr g1
      have HK : Hid (∀ w2 : World, Below w.heap.size w w2 → w2.ownsRow w.heap.size 5 1 u3 (encSegs (ss.take k)).length (bcells (encSegs (ss.take k))) → Calls Try.prog 26 #[u3, segV (ss[k]).1 (some ⟨b2, o2, none⟩) (ss[k]).2.length c'] w2 fun e w' => ∃ v', e = .returned v' ∧ w'.ownsRow w.heap.size 5 1 v' (encSegs (ss.take k) ++ encSeg ss[k]).length (bcells (encSegs (ss.take k) ++ encSeg ss[k])) ∧ Below w.heap.size w2 w') := fun w2 hb2 ho2 =>
        apseg_some w w2 w.heap.size b2 o2 _ c' (ss[k]).1 u3 (encSegs (ss.take k)) (ss[k]).2 rfl hb2 rfl g2 g3 ho2 hel hcz
      rw [← HT.out] at HK
      generalize hsk : ss[k] = s at *
      clear hsk hr c0 c1 hcz g1 g2 g3 HT
      obtain ⟨b1, zs⟩ := s
      simp only at d0 d1 HK
      generalize zs.length = l at *
      have hk0 : (0 : Int) ≤ (k : Int) := Int.natCast_nonneg _
      have hk1 : (k : Int) < (n : Int) := by omega
      have z1 : b < wr.heap.size := Nat.lt_of_lt_of_le z0 HB.out.size
      go_wp2_with fail
      refine (HK.out (wr.alloc (.cells #[.bool b1, .slice (some ⟨b2, o2, none⟩) l c'] 38)) (HB.out.alloc HB.out.size _) (HO.out.alloc _)).mono ?_
      rintro e w2 ⟨v2, rfl, ho2, hb2⟩
      have HO2 := hide ho2
      have HB2 : Hid (Below w.heap.size w w2) := (HB.out.alloc HB.out.size _).trans hb2
      clear ho2 hb2 HK HO HB
      go_wp2
      exact ⟨⟨k + 1, by omega, by go_num, HO2, HB2⟩, by simp [intOf]; omega⟩
    · have hkl : ss.take k = ss := List.take_of_length_le (by rw [HN.out]; omega)
      rw [hkl] at HO
      go_wp2
      go_ret
      exact ⟨_, rfl, HO.out, HB.out⟩
set_option maxHeartbeats 400000 in
theorem encode_empty (a : Option Addr) (cap : Nat) (w : World) : Calls Try.prog 10 #[.slice a 0 cap] w fun e w' => ∃ v, e = .returned v ∧ w'.ownsRow w.heap.size 5 1 v 0 [] ∧ Below w.heap.size w w' := by
  have HG0 := hide (good_empty a cap w)
  go_enter Try.func10, Try.ntmps10
  go_wp2_with fail
  refine HG0.out.mono ?_
  rintro e w1 ⟨rfl, hb1⟩
  have HB1 := hide hb1
  clear hb1 HG0
  go_wp2
  go_loop [3, 11] (fun u i => i = .int .i64 0 ∧ u = .slice none 0 0) (fun _ i => 0 - (intOf i).toNat)
  case atStart => exact ⟨rfl, rfl⟩
  case round =>
    obtain ⟨rfl, rfl⟩ := hrel
    go_wp2
    go_ret
    exact ⟨_, rfl, own_nil _ _ _ _, HB1.out⟩
set_option maxHeartbeats 400000 in
theorem encode_bad (a : Option Addr) (cap : Nat) (ss : List (Bool × List Int)) (w : World) (hsum : ss.length + sumP ss ≤ 100000) (h : PthRd w a ss) (hg : goodP ss = false) : Calls Try.prog 10 #[.slice a ss.length cap] w fun e w' => ∃ v, e = .returned v ∧ w'.ownsRow w.heap.size 5 1 v 0 [] ∧ Below w.heap.size w w' := by
  have HG0 := hide (good_any a cap ss w hsum h)
  rw [hg] at HG0
  clear h hsum hg
  generalize ss.length = n at *
  go_enter Try.func10, Try.ntmps10
  go_wp2_with fail
  refine HG0.out.mono ?_
  rintro e w1 ⟨rfl, hb1⟩
  have HB1 := hide hb1
  clear hb1 HG0
  go_wp2
  go_ret
  exact ⟨_, rfl, own_nil _ _ _ _, HB1.out⟩
theorem encode_any (a : Option Addr) (cap : Nat) (ss : List (Bool × List Int)) (w : World) (hsum : ss.length + sumP ss ≤ 100000) (h : PthRd w a ss) : Calls Try.prog 10 #[.slice a ss.length cap] w fun e w' => ∃ v, e = .returned v ∧ w'.ownsRow w.heap.size 5 1 v (encPath ss).length (bcells (encPath ss)) ∧ Below w.heap.size w w' := by
  cases hg : goodP ss with
  | true =>
    rw [show encPath ss = encSegs ss from by unfold encPath; rw [hg]; rfl]
    by_cases h0 : ss = []
    · subst h0; exact encode_empty a cap w
    · obtain ⟨b, off, rfl, hc⟩ := h.cells (List.length_pos_iff.2 h0)
      exact encode_some b off _ cap ss w rfl hg hc
  | false =>
    rw [show encPath ss = [] from by unfold encPath; rw [hg]; rfl]
    exact encode_bad a cap ss w hsum h hg
end Go.Proofs.Ytnfokbpnjhhiiaa
