/- RegionOther's walk. -/
import Derived.Test.YtolbifboibjgcaaAns03
namespace Go.Proofs.Ytolbifboibjgcaa
open Go.RowKit

theorem rows_lit1 (w : World) (a : Option Addr) (l c : Nat) (f : Nat → Nat) (h : Rw w a l f) : RowsRd (w.alloc (.cells #[.slice a l c] 39)) (.slice (some ⟨w.heap.size, 0, none⟩) 1 1) 1 (fun _ => l) (fun _ => f) := by
  refine ⟨_, _, rfl, by omega, fun _ => ⟨w.heap.size, rfl, fun i hi => ⟨a, c, ?_, h.below ((Below.refl _ _).alloc (Nat.le_refl _) _)⟩⟩⟩
  obtain rfl : i = 0 := by omega
  rw [World.cell?_alloc_mark]
  rfl
set_option maxRecDepth 100000 in
set_option maxHeartbeats 1600000 in
theorem regionOther_in (a0 : Option Addr) (len0 cap0 : Nat) (f : Nat → Nat) (g o : Nat) (w : World) (hr : Rw w a0 len0 f) (hf : ∀ i, i < len0 → f i < 256) (hcap : len0 ≤ cap0) (hl : len0 ≤ 400) (hg : g < 65536) (ho : o < 65536) (hne : g ≠ o) :
    Calls Try.prog 5 #[.slice a0 len0 cap0, .int .u16 (g : Int), .int .u16 (o : Int)] w fun e w' => e = .returned (.bool true) ∧ Below w.heap.size w w' := by
  have HR := hide hr
  have HFb := hide hf
  have HC := hide hcap
  have HN := hide hne
  have e0 : ((g : Int) == (o : Int)) = false := by rw [beq_eq_false_iff_ne]; omega
  have hl' : ¬ (400 : Int) < (len0 : Int) := by omega
  clear hr hf hcap hne
  go_enter Try.func5, Try.ntmps5
  go_wp2_with fail
  refine (new_any 20 _ (by omega)).mono ?_
  rintro e w1 ⟨D, F, rfl, hd, hF, hb⟩
  rw [show (clamp 20 1024).toNat = 20 from rfl] at hd
  have HD := hide hd
  have HF := hide hF
  have HB := hide hb
  clear hd hF hb
  have hft : fit 20 0 20 len0 = true := (fit_iff _ _ _ _).2 (by unfold cnt; omega)
  have HFT := hide hft
  clear hft
  go_wp2_with fail
  refine (lay_in HD.out 0 g 20 a0 len0 cap0 f (by omega) (by omega) HC.out (HR.out.below HB.out) HFb.out (fun x hx hp hf => by have := HR.out.lt x hx hp; have := HF.out _ hf; omega) (by show 20 ≤ 1024; omega) (by show 0 < 800000; omega) HFT.out).mono ?_
  rintro e w2 ⟨rfl, F2, hd2, hst2⟩
  have hlv := ((live_new 20).lay 0 g f len0).1
  rw [layNext_good hlv, hlv]
  have hbt := (bts_made 20).layd 0 g HFb.out
  obtain ⟨T, hT⟩ : ∃ T, T = ((St.made 20).lay 0 (ent g f len0) (cnt len0)).1 := ⟨_, rfl⟩
  obtain ⟨t1, t2, t3, t4, t6, t5, _⟩ := lay_new 20 0 g 20 f len0 (by omega) (by omega) HFT.out hT
  rw [← hT] at hd2 hbt
  have HD2 := hide hd2
  have h2 : Below w.heap.size w w2 := HB.out.trans (hst2.1.below _ HB.out.size HF.out)
  have HB2 := hide h2
  have HT := hide (And.intro t1 (And.intro t2 (And.intro t3 (And.intro t4 (And.intro t5 (And.intro t6 hbt))))))
  clear hT hd2 hst2 t1 t2 t3 t4 t5 t6 hbt hlv h2
  have hcn : (cnt len0 : Int) ≤ 8 := by unfold cnt; omega
  rw [show ((0 : Nat) : Int) + ((cnt len0 : Nat) : Int) = ((cnt len0 : Nat) : Int) from by omega, show ((0 : Nat) : Int) = 0 from rfl]
  go_wp2_with fail
  refine (scan_in HD2.out 0 o 20 (by omega) (by rw [HT.out.2.2.2.2.1]; omega) (by rw [HT.out.2.2.2.2.1]; omega) HT.out.2.2.2.2.2.2.byt).mono ?_
  rintro e w3 ⟨⟨K, v, hK, rfl, hrows⟩, hb3⟩
  obtain rfl : K = 0 := found_one hK ⟨fun i hi => absurd hi (by omega), ent_other (by omega) (by omega) HN.out HT.out.2.2.2.2.2.1⟩
  obtain ⟨vs, hov, _⟩ := hrows
  obtain ⟨va, vc, rfl, _⟩ := own_of_none hov
  have HB3 := hide (HB2.out.trans (below_le hb3 HB2.out.size))
  have HD3 := hide (HD2.out.later hb3)
  rw [show ((pos T 0 0 : Nat) : Int) = 0 from rfl]
  clear hb3 hov hK
  go_wp2_with fail
  refine (scan_in HD3.out 0 g 20 (by omega) (by rw [HT.out.2.2.2.2.1]; omega) (by rw [HT.out.2.2.2.2.1]; omega) HT.out.2.2.2.2.2.2.byt).mono ?_
  rintro e w4 ⟨⟨K, v, hK, rfl, hrows⟩, hb4⟩
  obtain rfl : K = 1 := found_one hK HT.out.1
  have hrd : RowsRd w4 v 1 (fun _ => len0) (fun _ => f) := (hrows.rd (by omega)).congr (fun i hi => by obtain rfl : i = 0 := (by omega); exact HT.out.2.2.1) (fun i hi j hj => by
    obtain rfl : i = 0 := by omega
    refine HT.out.2.2.2.1 j ?_
    have : j < lenAt T (pos T 0 0) := hj
    rwa [show lenAt T (pos T 0 0) = len0 from HT.out.2.2.1] at this)
  have HRD := hide hrd
  have HB4 := hide (HB3.out.trans (below_le hb4 HB3.out.size))
  rw [HT.out.2.1, Nat.zero_add]
  clear hb4 hK hrd hrows
  go_wp2_with fail
  refine (answers_any _).mono ?_
  rintro e w5 ⟨rfl, hb5⟩
  have HRD5 := hide (HRD.out.below hb5)
  have HB5 := hide (HB4.out.trans (below_le hb5 HB4.out.size))
  clear hb5
  go_wp2_with fail
  refine (rows_same (HRD5.out.below ((Below.refl _ _).alloc (Nat.le_refl _) _)) (rows_lit1 w5 a0 len0 cap0 f (HR.out.below HB5.out))).mono ?_
  rintro e w6 ⟨rfl, m, rfl⟩
  go_wp2
  go_ret
  exact ⟨rfl, below_drewN (HB5.out.alloc HB5.out.size _) m⟩
set_option maxHeartbeats 400000 in
theorem regionOther_out (a0 : Option Addr) (len0 cap0 : Nat) (g o : Int) (w : World) (h : 400 < len0 ∨ g = o) :
    Calls Try.prog 5 #[.slice a0 len0 cap0, .int .u16 g, .int .u16 o] w fun e w' => e = .returned (.bool true) ∧ Below w.heap.size w w' := by
  by_cases hl : 400 < len0
  · have hl' : (400 : Int) < (len0 : Int) := by omega
    go_enter Try.func5, Try.ntmps5
    go_wp2_with fail
    refine (answers_any _).mono ?_
    rintro e w1 ⟨rfl, hb⟩
    go_wp2
    go_ret
    exact ⟨rfl, hb⟩
  · obtain rfl : g = o := by omega
    have hl' : ¬ (400 : Int) < (len0 : Int) := by omega
    go_enter Try.func5, Try.ntmps5
    go_wp2_with fail
    refine (answers_any _).mono ?_
    rintro e w1 ⟨rfl, hb⟩
    go_wp2
    go_ret
    exact ⟨rfl, hb⟩
theorem isRow_cap {k : IntKind} {w : World} {a : Option Addr} {len cap : Nat} {zs : List Int} (h : IsRow k w a len cap zs) : len ≤ cap := by
  rcases h with ⟨_, rfl, rfl, _⟩ | ⟨x, _, hl, _⟩
  · exact Nat.le_refl _
  · exact hl
theorem regionOther_walk (a0 : Option Addr) (len0 cap0 : Nat) (z0 : List Int) (a1 : Int) (a2 : Int) (w : World) (w0 : IsRow .u8 w a0 len0 cap0 z0) (w1 : (Lit.int .u16 a1).wf = true) (w2 : (Lit.int .u16 a2).wf = true) :
    Calls Try.prog 5 #[.slice a0 len0 cap0, .int .u16 a1, .int .u16 a2] w fun e w' => e = .returned (.bool true) ∧ Below w.heap.size w w' := by
  obtain ⟨hr0, hf0⟩ := rw_of w0
  have hb1 := bounds_u16 w1
  have hb2 := bounds_u16 w2
  by_cases h : 400 < len0 ∨ a1 = a2
  · exact regionOther_out a0 len0 cap0 a1 a2 w h
  · obtain ⟨g, rfl⟩ := Int.eq_ofNat_of_zero_le hb1.1
    obtain ⟨o, rfl⟩ := Int.eq_ofNat_of_zero_le hb2.1
    exact regionOther_in a0 len0 cap0 _ g o w hr0 hf0 (isRow_cap w0) (by omega) (by omega) (by omega) (by omega)
end Go.Proofs.Ytolbifboibjgcaa
