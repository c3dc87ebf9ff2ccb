/- The document's Same of any bytes; SameNote; note. -/
import Derived.Test.YtmpnnfbpknfekaaAtOn
import Derived.Deep.QuietTactic
import Derived.BigQuiet
namespace Go.Proofs.Ytmpnnfbpknfekaa
open Go.RowKit
set_option maxRecDepth 100000

theorem take_eq_all {x y : List Nat} {n : Nat} (hx : x.length = n) (hy : y.length = n) (h : x.take n = y.take n) : x = y := by
  rwa [List.take_of_length_le (by omega), List.take_of_length_le (by omega)] at h
set_option maxHeartbeats 800000 in
theorem samed_some (b1 o1 b2 o2 len c1 c2 : Nat) (x y : List Nat) (w : World) (hx : x.length = len) (hy : y.length = len) (hm : len ≤ 1000000)
    (h1 : ∀ i, i < len → w.cell? ⟨b1, o1 + i, none⟩ = some (.int .u8 ((x.getD i 0 : Nat) : Int))) (h2 : ∀ i, i < len → w.cell? ⟨b2, o2 + i, none⟩ = some (.int .u8 ((y.getD i 0 : Nat) : Int))) :
    Calls Try.prog 15 #[.slice (some ⟨b1, o1, none⟩) len c1, .slice (some ⟨b2, o2, none⟩) len c2] w fun e w' => e = .returned (.bool (decide (x = y))) ∧ ∃ m, w' = w.drewN m := by
  have H1 := hide h1
  have H2 := hide h2
  have HX := hide hx
  have HY := hide hy
  clear h1 h2 hx hy
  go_enter Try.func15, Try.ntmps15
  go_wp2
  go_loopw [5] (fun i wq => ∃ k m : Nat, k ≤ len ∧ i = .int .i64 k ∧ Hid (wq = w.drewN m) ∧ Hid (x.take k = y.take k)) (fun i _ => len - (intOf i).toNat)
  case atStart => exact ⟨0, 0, Nat.zero_le _, rfl, rfl, rfl⟩
  case round =>
    obtain ⟨k, m, hk, rfl, HW, HT⟩ := hrel
    by_cases hlt : k < len
    · have hkx : k < x.length := by rw [HX.out]; exact hlt
      have hky : k < y.length := by rw [HY.out]; exact hlt
      have ex : x.getD k 0 = x[k] := by rw [List.getD_eq_getElem?_getD, List.getElem?_eq_getElem hkx]; rfl
      have ey : y.getD k 0 = y[k] := by rw [List.getD_eq_getElem?_getD, List.getElem?_eq_getElem hky]; rfl
      have c1 : wr.cell? ⟨b1, o1 + k, none⟩ = some (.int .u8 ((x[k] : Nat) : Int)) := by rw [HW.out, cell_drewN, ← ex]; exact H1.out k hlt
      have c2 : wr.cell? ⟨b2, o2 + k, none⟩ = some (.int .u8 ((y[k] : Nat) : Int)) := by rw [HW.out, cell_drewN, ← ey]; exact H2.out k hlt
      have HTX : Hid (x.take (k + 1) = x.take k ++ [x[k]]) := List.take_succ_eq_append_getElem hkx
      have HTY : Hid (y.take (k + 1) = y.take k ++ [y[k]]) := List.take_succ_eq_append_getElem hky
      have HNE : Hid (x[k] ≠ y[k] → decide (x = y) = false) := fun h => decide_eq_false (fun e => by subst e; exact h rfl)
      clear ex ey
      generalize x[k] = p at *
      generalize y[k] = q at *
      have hk0 : (0 : Int) ≤ (k : Int) := Int.natCast_nonneg _
      have hk1 : (k : Int) < (len : Int) := by omega
      by_cases hpq : p = q
      · subst hpq
        have HT2 : Hid (x.take (k + 1) = y.take (k + 1)) := by show x.take (k + 1) = _; rw [HTX.out, HTY.out, HT.out]
        clear HNE HTX HTY
        go_wp2_with fail
        go_quiet (fail)
        go_wp2
        exact ⟨⟨k + 1, m + nq, by omega, by go_num, show wr.drewN nq = _ by rw [HW.out, drewN_more], HT2⟩, by simp [intOf]; omega⟩
      · have HF := hide (HNE.out hpq)
        have hpi : ((p : Int) != (q : Int)) = true := by simp; omega
        have hpn : (p != q) = true := by simpa using hpq
        clear HNE HTX HTY
        go_wp2_with fail
        go_quiet (fail)
        go_wp2
        go_ret
        exact ⟨ret_bool HF.out.symm, m + nq, by rw [HW.out, drewN_more]⟩
    · have HF : Hid (decide (x = y) = true) := by
        have hkl : k = len := by omega
        have h9 := HT.out
        rw [hkl] at h9
        exact decide_eq_true (take_eq_all HX.out HY.out h9)
      go_wp2
      go_ret
      exact ⟨ret_bool HF.out.symm, m, HW.out⟩
set_option maxHeartbeats 400000 in
theorem samed_len (a1 a2 : Option Addr) (n1 n2 c1 c2 : Nat) (w : World) (h : n1 ≠ n2) : Calls Try.prog 15 #[.slice a1 n1 c1, .slice a2 n2 c2] w fun e w' => e = .returned (.bool false) ∧ ∃ m, w' = w.drewN m := by
  have hi : ((n1 : Int) != (n2 : Int)) = true := by simp; omega
  have hn : (n1 != n2) = true := by simpa using h
  go_enter Try.func15, Try.ntmps15
  go_wp2
  go_ret
  exact ⟨rfl, 0, rfl⟩
theorem samed_any (a1 a2 : Option Addr) (c1 c2 : Nat) (x y : List Nat) (w : World) (hl : x.length ≤ 1000000) (h1 : BRd w a1 x) (h2 : BRd w a2 y) :
    Calls Try.prog 15 #[.slice a1 x.length c1, .slice a2 y.length c2] w fun e w' => e = .returned (.bool (decide (x = y))) ∧ ∃ m, w' = w.drewN m := by
  by_cases hle : x.length = y.length
  · by_cases h0 : x.length = 0
    · have hx : x = [] := List.length_eq_zero_iff.1 h0
      have hy : y = [] := List.length_eq_zero_iff.1 (by omega)
      subst hx hy
      exact sameq_empty a1 a2 c1 c2 w
    · obtain ⟨b1, o1, rfl, hc1⟩ := h1.1.2 (by omega)
      obtain ⟨b2, o2, rfl, hc2⟩ := h2.1.2 (by omega)
      rw [← hle]
      exact samed_some b1 o1 b2 o2 _ c1 c2 x y w rfl hle.symm hl hc1 (fun i hi => hc2 i (by omega))
  · rw [decide_eq_false (fun e => hle (by rw [e]))]
    exact samed_len a1 a2 _ _ c1 c2 w hle
set_option maxHeartbeats 1600000 in
theorem samenote_any (p q r s : Int) (a1 a2 : Option Addr) (c1 c2 : Nat) (x y : List Nat) (w : World) (hl : x.length ≤ 1000000) (h1 : BRd w a1 x) (h2 : BRd w a2 y) :
    Calls Try.prog 10 #[.agg #[.int .i64 p, .int .i64 q, .slice a1 x.length c1], .agg #[.int .i64 r, .int .i64 s, .slice a2 y.length c2]] w fun e w' => e = .returned (.bool (decide (p = r ∧ q = s ∧ x = y))) ∧ Below w.heap.size w w' := by
  have hb : ∀ o1 o2, Below w.heap.size w ((w.alloc o1).alloc o2) := fun o1 o2 => ((Below.refl _ _).alloc (Nat.le_refl _) _).alloc (by simp) _
  have K : Hid (∀ o1 o2, Calls Try.prog 15 #[.slice a1 x.length c1, .slice a2 y.length c2] ((w.alloc o1).alloc o2) fun e w' => e = .returned (.bool (decide (x = y))) ∧ ∃ m, w' = ((w.alloc o1).alloc o2).drewN m) := fun o1 o2 => samed_any a1 a2 c1 c2 x y _ hl (h1.below (hb o1 o2)) (h2.below (hb o1 o2))
  by_cases e1 : p = r
  · subst e1
    by_cases e2 : q = s
    · subst e2
      have HD : Hid (decide (p = p ∧ q = q ∧ x = y) = decide (x = y)) := by show decide _ = _; simp
      rw [HD.out]
      clear HD h1 h2
      generalize decide (x = y) = d at *
      generalize x.length = n1 at *
      generalize y.length = n2 at *
      go_enter Try.func10, Try.ntmps10
      go_wp2_with fail
      refine (K.out _ _).mono ?_
      rintro e w1 ⟨rfl, m, rfl⟩
      go_wp2
      go_ret
      exact ⟨rfl, below_drewN (hb _ _) m⟩
    · have HD : Hid (decide (p = p ∧ q = s ∧ x = y) = false) := decide_eq_false (fun h => e2 h.2.1)
      rw [HD.out]
      have f2 : (q == s) = false := by simpa using e2
      clear HD h1 h2 K
      generalize x.length = n1 at *
      generalize y.length = n2 at *
      go_enter Try.func10, Try.ntmps10
      go_wp2
      go_ret
      exact ⟨rfl, hb _ _⟩
  · have HD : Hid (decide (p = r ∧ q = s ∧ x = y) = false) := decide_eq_false (fun h => e1 h.1)
    rw [HD.out]
    have f1 : (p == r) = false := by simpa using e1
    clear HD h1 h2 K
    generalize x.length = n1 at *
    generalize y.length = n2 at *
    go_enter Try.func10, Try.ntmps10
    go_wp2
    go_ret
    exact ⟨rfl, hb _ _⟩
theorem own_under {w : World} {B e size n X : Nat} {v : Value} {xs : List Value} (h : w.ownsRow B e size v n xs) (hX : X < B) (j : Nat) (u : Value) : (w.setCell ⟨X, j, none⟩ u).ownsRow B e size v n xs := by
  refine ⟨h.1, ?_⟩
  rcases h.2 with hh | ⟨g, cap, cur, ev, hg, hc, rest⟩
  · exact .inl hh
  · refine .inr ⟨g, cap, cur, ev, hg, ?_, rest⟩
    rw [heap_setCell w X j _ g (by omega)]
    exact hc
theorem own_low {w : World} {B B' e size n : Nat} {v : Value} {xs : List Value} (h : w.ownsRow B e size v n xs) (hB : B' ≤ B) : w.ownsRow B' e size v n xs := by
  refine ⟨h.1, ?_⟩
  rcases h.2 with hh | ⟨g, cap, cur, ev, hg, rest⟩
  · exact .inl hh
  · exact .inr ⟨g, cap, cur, ev, Nat.le_trans hB hg, rest⟩
end Go.Proofs.Ytmpnnfbpknfekaa
