/- RegionReads' walk. -/
import Derived.Test.YtolbifboibjgcaaBothW
import Derived.Test.YtolbifboibjgcaaSameW
import Derived.Test.YtolbifboibjgcaaRCleanW
import Derived.Test.YtolbifboibjgcaaAns03
import Derived.Test.YtolbifboibjgcaaActsOf
import Derived.ProofKit
import Derived.Deep.Slices
namespace Go.Proofs.Ytolbifboibjgcaa
open Go.RowKit Go.ChangeShapes Go.WideShapes Go.ChangeAt

set_option maxHeartbeats 400000 in
theorem number_any (g : Int) (w : World) : Calls Try.prog 7 #[.int .i64 g] w fun e w' => e = .returned (.bool (decide (0 ≤ g ∧ g ≤ 2147483647))) ∧ w' = w := by
  by_cases h0 : 0 ≤ g
  · go_enter Try.func7, Try.ntmps7
    go_wp2
    go_ret
    exact ⟨ret_bool (by simp [h0]), rfl⟩
  · go_enter Try.func7, Try.ntmps7
    go_wp2
    go_ret
    exact ⟨ret_bool (by simp; omega), rfl⟩
/-- What Scan answers, from any sector: K rows, the L i bytes G i; the sector behind them. -/
def Scanned (s : St) (at_ e : Int) (gen K : Nat) (px : Int) (L : Nat → Nat) (G : Nat → Nat → Nat) : Prop :=
  (at_ < 0 ∧ K = 0 ∧ px = at_ ∧ L = (fun _ => 0) ∧ G = (fun _ _ => 0)) ∨
  (0 ≤ at_ ∧ Found s at_.toNat e gen K ∧ px = (pos s at_.toNat K : Int) ∧ L = (fun i => lenAt s (pos s at_.toNat i)) ∧ G = (fun i => runs s (pos s at_.toNat i + 1)))
theorem scanned_one {s : St} {at_ e : Int} {gen K K' : Nat} {px px' : Int} {L L' : Nat → Nat} {G G' : Nat → Nat → Nat} (h : Scanned s at_ e gen K px L G) (h' : Scanned s at_ e gen K' px' L' G') : K = K' ∧ px = px' ∧ L = L' ∧ G = G' := by
  rcases h with ⟨h0, rfl, rfl, rfl, rfl⟩ | ⟨h0, hf, rfl, rfl, rfl⟩
  · rcases h' with ⟨_, rfl, rfl, rfl, rfl⟩ | ⟨h1, _⟩
    · exact ⟨rfl, rfl, rfl, rfl⟩
    · omega
  · rcases h' with ⟨h1, _⟩ | ⟨_, hf', rfl, rfl, rfl⟩
    · omega
    · obtain rfl := found_one hf hf'
      exact ⟨rfl, rfl, rfl, rfl⟩
theorem found_bound {s : St} {at_ : Nat} {e : Int} {gen K : Nat} (h : Found s at_ e gen K) : K ≤ s.n := by
  cases K with
  | zero => exact Nat.zero_le _
  | succ k =>
    have h1 := (isEnt_lt (h.1 k (by omega))).1
    have h2 := pos_ge s at_ (k + 1)
    have h3 : pos s at_ (k + 1) ≤ s.n := h1
    omega
theorem rd_none (w : World) : RowsRd w (.slice none 0 0) 0 (fun _ => 0) (fun _ _ => 0) := ⟨none, 0, rfl, by omega, fun h => absurd h (by omega)⟩
theorem ScanRes.int {w w' : World} {s : St} {at_ : Nat} {e : Int} {gen : Nat} {r : Ending} (hs : s.n ≤ 1024) (h : ScanRes w w' s at_ e gen r) : ∃ v K px L G, r = .returned (.tuple #[v, .int .i64 px]) ∧ Scanned s (at_ : Int) e gen K px L G ∧ RowsRd w' v K L G := by
  obtain ⟨K, v, hK, rfl, hrows⟩ := h
  have hb := found_bound hK
  exact ⟨v, K, _, _, _, rfl, .inr ⟨by omega, hK, rfl, rfl, rfl⟩, hrows.rd (by omega)⟩
theorem scan_int {w : World} {D : Nat} {s : St} {F : Nat → Prop} (h : Disk w D s F) (at_ e : Int) (gen : Nat) (hg : gen ≤ 2147483647) (hs : s.n ≤ 1024) (hby : Byt s) :
    Calls Try.prog 10 #[.pointer (some ⟨D, 0, none⟩), .int .i64 at_, .int .i64 e, .int .i64 (gen : Int)] w fun r w' => ∃ v K px L G, r = .returned (.tuple #[v, .int .i64 px]) ∧ Scanned s at_ e gen K px L G ∧ RowsRd w' v K L G ∧ Below w.heap.size w w' := by
  by_cases h0 : at_ < 0
  · refine (scan_bad h at_ e gen hg (by omega)).mono ?_
    rintro r w' ⟨rfl, rfl⟩
    exact ⟨_, 0, at_, _, _, rfl, .inl ⟨h0, rfl, rfl, rfl, rfl⟩, rd_none _, Below.refl _ _⟩
  · obtain ⟨a, rfl⟩ := Int.eq_ofNat_of_zero_le (show 0 ≤ at_ by omega)
    by_cases h1 : a < s.n
    · refine (scan_in h a gen e hg hs h1 hby).mono ?_
      rintro r w' ⟨hr, hb⟩
      obtain ⟨v, K, px, L, G, h2, h3, h4⟩ := hr.int hs
      exact ⟨v, K, px, L, G, h2, h3, h4, hb⟩
    · refine (scan_bad h (a : Int) e gen hg (by omega)).mono ?_
      rintro r w' ⟨rfl, rfl⟩
      have hf : Found s a e gen 0 := ⟨fun i hi => absurd hi (by omega), isEnt_ge (by show s.n ≤ a; omega)⟩
      exact ⟨_, 0, (a : Int), _, _, rfl, .inr ⟨by omega, hf, rfl, rfl, rfl⟩, ⟨none, 0, rfl, by omega, fun h => absurd h (by omega)⟩, Below.refl _ _⟩
theorem rscan_int {w : World} {V : Nat} {s : St} {W P : Nat → Prop} (h : RDisk w V s W P) (hm : Made s) (hby : Bts s) (at_ e : Int) (gen : Nat) (hg : gen ≤ 2147483647) (hs : s.n ≤ 120) :
    Calls Try.prog 11 #[.pointer (some ⟨V, 0, none⟩), .int .i64 at_, .int .i64 e, .int .i64 (gen : Int)] w fun r w' => ∃ v K px L G, r = .returned (.tuple #[v, .int .i64 px]) ∧ Scanned s at_ e gen K px L G ∧ RowsRd w' v K L G ∧ Below w.heap.size w w' := by
  by_cases h0 : at_ < 0
  · refine (rscan_bad at_ e (gen : Int) h0).mono ?_
    rintro r w' ⟨rfl, rfl⟩
    exact ⟨_, 0, at_, _, _, rfl, .inl ⟨h0, rfl, rfl, rfl, rfl⟩, rd_none _, Below.refl _ _⟩
  · obtain ⟨a, rfl⟩ := Int.eq_ofNat_of_zero_le (show 0 ≤ at_ by omega)
    refine (rscan_in h hm hby a gen e hg hs).mono ?_
    rintro r w' ⟨hr, hb⟩
    obtain ⟨v, K, px, L, G, h2, h3, h4⟩ := hr.int (by omega)
    exact ⟨v, K, px, L, G, h2, h3, h4, hb⟩
theorem good_clean {N : Nat} {s : St} (h : Good N s) (lo m : Nat) : Good N (s.clean lo m).1 := by
  have h1 : Good N (cleans s lo m).1.1 := ⟨made_cleans h.1 lo m, h.2.1.cleans lo m, by rw [cleans_n]; exact h.2.2⟩
  unfold St.clean
  split
  · split
    · refine ⟨?_, h1.2.1.fl, by rw [fl_n]; exact h1.2.2⟩
      unfold St.fl
      split
      · exact h1.1
      · exact h1.1
    · exact h1
  · exact h1
set_option maxRecDepth 100000 in
set_option maxHeartbeats 1600000 in
theorem regionReads_in (n k : Nat) (a0 : Option Addr) (len0 cap0 : Nat) (at_ e : Int) (gen : Nat) (w : World) (hn : n < 256) (hk : (n : Int) % 40 = (k : Int)) (hm : len0 ≤ maxLen) (ha : Acts w a0 len0) (hg : gen ≤ 2147483647) :
    Calls Try.prog 3 #[.int .u8 (n : Int), .slice a0 len0 cap0, .int .i64 at_, .int .i64 e, .int .i64 (gen : Int)] w fun e w' => e = .returned (.bool true) ∧ Below w.heap.size w w' := by
  have HA := hide ha
  have HMx := hide hm
  have hd : decide ((0 : Int) ≤ (gen : Int) ∧ (gen : Int) ≤ 2147483647) = true := by simp; omega
  have HG := hide (number_any (gen : Int) w)
  rw [hd] at HG
  have hk40 : k < 40 := by omega
  clear ha hm hd
  go_enter Try.func3, Try.ntmps3
  go_wp2_with fail
  refine HG.out.mono ?_
  rintro r w0 ⟨rfl, rfl⟩
  go_wp2_with fail
  refine (both_any (k : Int) (by omega) a0 len0 cap0 w0 HMx.out HA.out).mono ?_
  rintro r w1 ⟨D, V, rfl, s, F, W, P, hp, hgd, hlo, hbel⟩
  have hsn : s.n ≤ 120 := by have := hgd.2.2; unfold clamp at this; omega
  have HP := hide hp
  have HGd := hide hgd
  have HB := hide hbel
  have HLO := hide hlo
  clear hp hgd hbel hlo
  go_wp2_with fail
  refine (scan_int HP.out.d at_ e gen hg (by omega) HGd.out.2.1.byt).mono ?_
  rintro r w2 ⟨v1, K1, p1, L1, G1, rfl, hs1, hr1, hb2⟩
  have HS1 := hide hs1
  have HR1 := hide hr1
  have HP2 := hide (HP.out.later hb2)
  have HB2 := hide (HB.out.trans (below_le hb2 HB.out.size))
  clear hs1 hr1 hb2
  go_wp2_with fail
  refine (rscan_int HP2.out.r HGd.out.1 HGd.out.2.1 at_ e gen hg hsn).mono ?_
  rintro r w3 ⟨v2, K2, p2, L2, G2, rfl, hs2, hr2, hb3⟩
  obtain ⟨rfl, rfl, rfl, rfl⟩ := scanned_one HS1.out hs2
  have HR2 := hide hr2
  have HR13 := hide (HR1.out.below hb3)
  have HP3 := hide (HP2.out.later hb3)
  have HB3 := hide (HB2.out.trans (below_le hb3 HB2.out.size))
  clear hs2 hr2 hb3
  go_wp2_with fail
  refine (rows_same HR13.out HR2.out).mono ?_
  rintro r w4 ⟨rfl, mm, rfl⟩
  have HP4 := hide (HP3.out.later (below_drewN (Below.refl _ _) mm))
  have HB4 := hide (below_drewN HB3.out mm)
  generalize w3.drewN mm = w4 at *
  obtain ⟨lo, hlo⟩ : ∃ lo : Nat, (lo : Int) = max at_ 0 := ⟨(max at_ 0).toNat, by omega⟩
  obtain ⟨m, hm⟩ : ∃ m : Nat, m = (min e (s.n : Int) - (lo : Int)).toNat := ⟨_, rfl⟩
  have HLM := hide (And.intro hlo hm)
  clear hlo hm
  go_wp2_with fail
  refine (clean_any HP4.out.d at_ e lo m HLM.out.1 HLM.out.2 (by omega) (by have := HLO.out; omega)).mono ?_
  rintro r w5 ⟨rfl, F5, hd5, hst5⟩
  have HP5 := hide (HP4.out.stepD hd5 hst5)
  have HB5 := hide (HB4.out.trans (HP4.out.belowD hst5))
  clear hd5 hst5
  go_wp2_with fail
  refine (rclean_any HP5.out.r HGd.out.1 at_ e lo m HLM.out.1 HLM.out.2 (by omega) (by have := HLO.out; omega)).mono ?_
  rintro r w6 ⟨rfl, W6, P6, hd6, hst6⟩
  have HP6 := hide (HP5.out.stepR hd6 hst6)
  have HB6 := hide (HB5.out.trans (HP5.out.belowR hst6))
  have HG6 := hide (good_clean HGd.out lo m)
  clear hd6 hst6
  generalize s.clean lo m = S6 at *
  go_wp2_with fail
  refine (answers_any _).mono ?_
  rintro r w7 ⟨rfl, hb7⟩
  have HP7 := hide (HP6.out.later hb7)
  have HB7 := hide (HB6.out.trans (below_le hb7 HB6.out.size))
  clear hb7
  go_wp2_with fail
  refine (sames_any HP7.out HG6.out (by have := HG6.out.2.2; unfold clamp at this; omega)).mono ?_
  rintro r w8 ⟨rfl, hb8⟩
  have HB8 := hide (HB7.out.trans (below_le hb8 HB7.out.size))
  clear hb8
  go_wp2
  go_ret
  exact ⟨rfl, HB8.out⟩
set_option maxHeartbeats 400000 in
theorem regionReads_out (n : Int) (a0 : Option Addr) (len0 cap0 : Nat) (at_ e g : Int) (w : World) (hg : ¬ (0 ≤ g ∧ g ≤ 2147483647)) :
    Calls Try.prog 3 #[.int .u8 n, .slice a0 len0 cap0, .int .i64 at_, .int .i64 e, .int .i64 g] w fun e w' => e = .returned (.bool true) ∧ Below w.heap.size w w' := by
  have hd : decide (0 ≤ g ∧ g ≤ 2147483647) = false := decide_eq_false hg
  have HG := hide (number_any g w)
  rw [hd] at HG
  clear hd hg
  go_enter Try.func3, Try.ntmps3
  go_wp2_with fail
  refine HG.out.mono ?_
  rintro r w0 ⟨rfl, rfl⟩
  go_wp2_with fail
  refine (answers_any _).mono ?_
  rintro e w1 ⟨rfl, hb⟩
  go_wp2
  go_ret
  exact ⟨rfl, hb⟩
theorem regionReads_walk (n : Int) (hn : (Lit.int .u8 n).wf = true) (a0 : Option Addr) (len0 cap0 : Nat) (at_ e g : Int) (w : World) (hm : len0 ≤ maxLen) (ha : Acts w a0 len0) :
    Calls Try.prog 3 #[.int .u8 n, .slice a0 len0 cap0, .int .i64 at_, .int .i64 e, .int .i64 g] w fun e w' => e = .returned (.bool true) ∧ Below w.heap.size w w' := by
  have hb := bounds_u8 hn
  by_cases h : 0 ≤ g ∧ g ≤ 2147483647
  · obtain ⟨k, rfl⟩ := Int.eq_ofNat_of_zero_le hb.1
    obtain ⟨gen, rfl⟩ := Int.eq_ofNat_of_zero_le h.1
    exact regionReads_in k (k % 40) a0 len0 cap0 at_ e gen w (by omega) (by omega) hm ha (by omega)
  · exact regionReads_out n a0 len0 cap0 at_ e g w h
end Go.Proofs.Ytolbifboibjgcaa
