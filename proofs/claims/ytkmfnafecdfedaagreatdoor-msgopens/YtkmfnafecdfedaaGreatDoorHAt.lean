/- Bytes behind a row of the call's own; the document's one. -/
import Derived.Test.YtkmfnafecdfedaaGreatDoorAtP
import Derived.Test.YtkmfnafecdfedaaGreatDoorHSm
import Derived.Deep.QuietTactic
import Derived.BigQuiet
namespace Go.Proofs.YtkmfnafecdfedaaGreatDoor
open Go.RowKit
set_option maxRecDepth 100000

/-- An attribute's bytes. -/
def oneB (fl ty : Nat) (bs : List Nat) : List Nat := if 255 < bs.length then [fl + 16, ty, bs.length / 256, bs.length % 256] ++ bs else [fl, ty, bs.length] ++ bs
theorem oneB_length (fl ty : Nat) (bs : List Nat) : (oneB fl ty bs).length ≤ bs.length + 4 := by
  unfold oneB
  split <;> simp
theorem oneB_pos (fl ty : Nat) (bs : List Nat) : 0 < (oneB fl ty bs).length := by
  unfold oneB
  split <;> simp
theorem oneB_lt (fl ty : Nat) (bs : List Nat) (hf : fl < 240) (ht : ty < 256) (hl : bs.length < 65536) (hb : ∀ x ∈ bs, x < 256) : ∀ x ∈ oneB fl ty bs, x < 256 := by
  intro x hx
  unfold oneB at hx
  split at hx
  · simp only [List.cons_append, List.nil_append, List.mem_cons] at hx
    rcases hx with rfl | rfl | rfl | rfl | hx
    · omega
    · omega
    · omega
    · omega
    · exact hb x hx
  · simp only [List.cons_append, List.nil_append, List.mem_cons] at hx
    rcases hx with rfl | rfl | rfl | hx
    · omega
    · omega
    · omega
    · exact hb x hx
section
attribute [local go_sem ↓] kept_append
set_option maxHeartbeats 1600000 in
theorem one_any (fl ty : Nat) (a : Option Addr) (c : Nat) (bs : List Nat) (w : World) (hf : fl < 240) (ht : ty < 256) (hl : bs.length ≤ 60000) (h : BRd w a bs) :
    Calls Tryz.prog 75 #[.int .i64 (fl : Int), .int .i64 (ty : Int), .slice a bs.length c] w fun e w' => ∃ v, e = .returned v ∧ w'.ownsRow w.heap.size 5 1 v (oneB fl ty bs).length (bcells (oneB fl ty bs)) ∧ Below w.heap.size w w' := by
  have HE := hide (show oneB fl ty bs = if 255 < bs.length then [fl + 16, ty, bs.length / 256, bs.length % 256] ++ bs else [fl, ty, bs.length] ++ bs from rfl)
  generalize oneB fl ty bs = ob at *
  have hb0 : ∀ cur : Array Value, Below w.heap.size w (w.alloc (.cells cur 5)) := fun cur => (Below.refl _ _).alloc (Nat.le_refl _) _
  by_cases h255 : 255 < bs.length
  · have HE2 : Hid (ob = [fl + 16, ty, bs.length / 256, bs.length % 256] ++ bs) := by show ob = _; rw [HE.out, if_pos h255]
    have hm : ∀ cur : Array Value, cur = #[.int .u8 (((fl + 16 : Nat)) : Int), .int .u8 (ty : Int), .int .u8 ((bs.length / 256 : Nat) : Int), .int .u8 ((bs.length % 256 : Nat) : Int)] → (w.alloc (.cells cur 5)).ownsRow w.heap.size 5 1 (.slice (some ⟨w.heap.size, 0, none⟩) 4 4) 4 (bcells [fl + 16, ty, bs.length / 256, bs.length % 256]) := fun cur e => by
      subst e
      exact ⟨rfl, .inr ⟨w.heap.size, 4, _, rfl, Nat.le_refl _, by unfold World.alloc; exact Array.getElem?_push_size, Nat.le_refl _, by unfold maxLen; omega, rfl, rfl⟩⟩
    obtain ⟨v', w', hr, ho, hb⟩ := app_brd bs a c rfl (hm #[.int .u8 ((fl : Int) + 16), .int .u8 (ty : Int), .int .u8 ((bs.length : Int) / 256), .int .u8 ((bs.length : Int) % 256)] (by simp)) (hb0 _).size (by simp; omega) (h.below (hb0 _))
    have HR := hide hr
    rw [← HE2.out] at ho
    have HO := hide ho
    have HB := hide ((hb0 _).trans hb)
    clear hr ho hb hm h HE HE2
    generalize bs.length = n at *
    have i255 : (255 : Int) < (n : Int) := by omega
    go_enter Tryz.func75, Tryz.ntmps75
    go_wp2_with fail
    refine kept_append_intro _ _ _ _ v' (w' := w') (by rfl) (by rfl) (by exact HR.out) ?_
    go_wp2
    go_ret
    exact ⟨_, rfl, HO.out, HB.out⟩
  · have HE2 : Hid (ob = [fl, ty, bs.length] ++ bs) := by show ob = _; rw [HE.out, if_neg h255]
    have hm : (w.alloc (.cells #[.int .u8 (fl : Int), .int .u8 (ty : Int), .int .u8 (bs.length : Int)] 5)).ownsRow w.heap.size 5 1 (.slice (some ⟨w.heap.size, 0, none⟩) 3 3) 3 (bcells [fl, ty, bs.length]) :=
      ⟨rfl, .inr ⟨w.heap.size, 3, _, rfl, Nat.le_refl _, by unfold World.alloc; exact Array.getElem?_push_size, Nat.le_refl _, by unfold maxLen; omega, rfl, rfl⟩⟩
    obtain ⟨v', w', hr, ho, hb⟩ := app_brd bs a c rfl hm (hb0 _).size (by simp; omega) (h.below (hb0 _))
    have HR := hide hr
    rw [← HE2.out] at ho
    have HO := hide ho
    have HB := hide ((hb0 _).trans hb)
    clear hr ho hb hm h HE HE2
    generalize bs.length = n at *
    have i255 : decide ((255 : Int) < (n : Int)) = false := decide_eq_false (by omega)
    go_enter Tryz.func75, Tryz.ntmps75
    go_wp2_with fail
    refine kept_append_intro _ _ _ _ v' (w' := w') (by rfl) (by rfl) (by exact HR.out) ?_
    go_wp2
    go_ret
    exact ⟨_, rfl, HO.out, HB.out⟩
end
end Go.Proofs.YtkmfnafecdfedaaGreatDoor
/- The document's Same of any bytes; SameNote; note. -/
namespace Go.Proofs.YtkmfnafecdfedaaGreatDoor
open Go.RowKit
set_option maxRecDepth 100000

theorem take_eq_all {x y : List Nat} {n : Nat} (hx : x.length = n) (hy : y.length = n) (h : x.take n = y.take n) : x = y := by
  rwa [List.take_of_length_le (by omega), List.take_of_length_le (by omega)] at h
set_option maxHeartbeats 800000 in
theorem samed_some (b1 o1 b2 o2 len c1 c2 : Nat) (x y : List Nat) (w : World) (hx : x.length = len) (hy : y.length = len) (hm : len ≤ 1000000)
    (h1 : ∀ i, i < len → w.cell? ⟨b1, o1 + i, none⟩ = some (.int .u8 ((x.getD i 0 : Nat) : Int))) (h2 : ∀ i, i < len → w.cell? ⟨b2, o2 + i, none⟩ = some (.int .u8 ((y.getD i 0 : Nat) : Int))) :
    Calls Tryz.prog 12 #[.slice (some ⟨b1, o1, none⟩) len c1, .slice (some ⟨b2, o2, none⟩) len c2] w fun e w' => e = .returned (.bool (decide (x = y))) ∧ ∃ m, w' = w.drewN m := by
  have H1 := hide h1
  have H2 := hide h2
  have HX := hide hx
  have HY := hide hy
  clear h1 h2 hx hy
  go_enter Tryz.func12, Tryz.ntmps12
  go_wp2
  go_loopw [5] (fun i wq => ∃ k m : Nat, k ≤ len ∧ i = .int .i64 k ∧ Hid (wq = w.drewN m) ∧ Hid (x.take k = y.take k)) (fun i _ => len - (intOf i).toNat)
  case atStart => exact ⟨0, 0, Nat.zero_le _, rfl, rfl, rfl⟩
  case round =>
    obtain ⟨k, m, hk, rfl, HW, HT⟩ := hrel
    by_cases hlt : k < len
    · have hkx : k < x.length := by rw [HX.out]; exact hlt
      have hky : k < y.length := by rw [HY.out]; exact hlt
      have ex : x.getD k 0 = x[k] := by rw [List.getD_eq_getElem?_getD, List.getElem?_eq_getElem hkx]; rfl
      have ey : y.getD k 0 = y[k] := by rw [List.getD_eq_getElem?_getD, List.getElem?_eq_getElem hky]; rfl
      have c1 : wr.cell? ⟨b1, o1 + k, none⟩ = some (.int .u8 ((x[k] : Nat) : Int)) := by rw [HW.out, cell_drewN, ← ex]; exact H1.out k hlt
      have c2 : wr.cell? ⟨b2, o2 + k, none⟩ = some (.int .u8 ((y[k] : Nat) : Int)) := by rw [HW.out, cell_drewN, ← ey]; exact H2.out k hlt
      have HTX : Hid (x.take (k + 1) = x.take k ++ [x[k]]) := List.take_succ_eq_append_getElem hkx
      have HTY : Hid (y.take (k + 1) = y.take k ++ [y[k]]) := List.take_succ_eq_append_getElem hky
      have HNE : Hid (x[k] ≠ y[k] → decide (x = y) = false) := fun h => decide_eq_false (fun e => by subst e; exact h rfl)
      clear ex ey
      generalize x[k] = p at *
      generalize y[k] = q at *
      have hk0 : (0 : Int) ≤ (k : Int) := Int.natCast_nonneg _
      have hk1 : (k : Int) < (len : Int) := by omega
      by_cases hpq : p = q
      · subst hpq
        have HT2 : Hid (x.take (k + 1) = y.take (k + 1)) := by show x.take (k + 1) = _; rw [HTX.out, HTY.out, HT.out]
        clear HNE HTX HTY
        go_wp2_with fail
        go_quiet (fail)
        go_wp2
        exact ⟨⟨k + 1, m + nq, by omega, by go_num, show wr.drewN nq = _ by rw [HW.out, drewN_more], HT2⟩, by simp [intOf]; omega⟩
      · have HF := hide (HNE.out hpq)
        have hpi : ((p : Int) != (q : Int)) = true := by simp; omega
        have hpn : (p != q) = true := by simpa using hpq
        clear HNE HTX HTY
        go_wp2_with fail
        go_quiet (fail)
        go_wp2
        go_ret
        exact ⟨ret_bool HF.out.symm, m + nq, by rw [HW.out, drewN_more]⟩
    · have HF : Hid (decide (x = y) = true) := by
        have hkl : k = len := by omega
        have h9 := HT.out
        rw [hkl] at h9
        exact decide_eq_true (take_eq_all HX.out HY.out h9)
      go_wp2
      go_ret
      exact ⟨ret_bool HF.out.symm, m, HW.out⟩
set_option maxHeartbeats 400000 in
theorem samed_len (a1 a2 : Option Addr) (n1 n2 c1 c2 : Nat) (w : World) (h : n1 ≠ n2) : Calls Tryz.prog 12 #[.slice a1 n1 c1, .slice a2 n2 c2] w fun e w' => e = .returned (.bool false) ∧ ∃ m, w' = w.drewN m := by
  have hi : ((n1 : Int) != (n2 : Int)) = true := by simp; omega
  have hn : (n1 != n2) = true := by simpa using h
  go_enter Tryz.func12, Tryz.ntmps12
  go_wp2
  go_ret
  exact ⟨rfl, 0, rfl⟩
theorem samed_any (a1 a2 : Option Addr) (c1 c2 : Nat) (x y : List Nat) (w : World) (hl : x.length ≤ 1000000) (h1 : BRd w a1 x) (h2 : BRd w a2 y) :
    Calls Tryz.prog 12 #[.slice a1 x.length c1, .slice a2 y.length c2] w fun e w' => e = .returned (.bool (decide (x = y))) ∧ ∃ m, w' = w.drewN m := by
  by_cases hle : x.length = y.length
  · by_cases h0 : x.length = 0
    · have hx : x = [] := List.length_eq_zero_iff.1 h0
      have hy : y = [] := List.length_eq_zero_iff.1 (by omega)
      subst hx hy
      exact sameq_empty a1 a2 c1 c2 w
    · obtain ⟨b1, o1, rfl, hc1⟩ := h1.1.2 (by omega)
      obtain ⟨b2, o2, rfl, hc2⟩ := h2.1.2 (by omega)
      rw [← hle]
      exact samed_some b1 o1 b2 o2 _ c1 c2 x y w rfl hle.symm hl hc1 (fun i hi => hc2 i (by omega))
  · rw [decide_eq_false (fun e => hle (by rw [e]))]
    exact samed_len a1 a2 _ _ c1 c2 w hle
set_option maxHeartbeats 1600000 in
theorem samenote_any (p q r s : Int) (a1 a2 : Option Addr) (c1 c2 : Nat) (x y : List Nat) (w : World) (hl : x.length ≤ 1000000) (h1 : BRd w a1 x) (h2 : BRd w a2 y) :
    Calls Tryz.prog 9 #[.agg #[.int .i64 p, .int .i64 q, .slice a1 x.length c1], .agg #[.int .i64 r, .int .i64 s, .slice a2 y.length c2]] w fun e w' => e = .returned (.bool (decide (p = r ∧ q = s ∧ x = y))) ∧ Below w.heap.size w w' := by
  have hb : ∀ o1 o2, Below w.heap.size w ((w.alloc o1).alloc o2) := fun o1 o2 => ((Below.refl _ _).alloc (Nat.le_refl _) _).alloc (by simp) _
  have K : Hid (∀ o1 o2, Calls Tryz.prog 12 #[.slice a1 x.length c1, .slice a2 y.length c2] ((w.alloc o1).alloc o2) fun e w' => e = .returned (.bool (decide (x = y))) ∧ ∃ m, w' = ((w.alloc o1).alloc o2).drewN m) := fun o1 o2 => samed_any a1 a2 c1 c2 x y _ hl (h1.below (hb o1 o2)) (h2.below (hb o1 o2))
  by_cases e1 : p = r
  · subst e1
    by_cases e2 : q = s
    · subst e2
      have HD : Hid (decide (p = p ∧ q = q ∧ x = y) = decide (x = y)) := by show decide _ = _; simp
      rw [HD.out]
      clear HD h1 h2
      generalize decide (x = y) = d at *
      generalize x.length = n1 at *
      generalize y.length = n2 at *
      go_enter Tryz.func9, Tryz.ntmps9
      go_wp2_with fail
      refine (K.out _ _).mono ?_
      rintro e w1 ⟨rfl, m, rfl⟩
      go_wp2
      go_ret
      exact ⟨rfl, below_drewN (hb _ _) m⟩
    · have HD : Hid (decide (p = p ∧ q = s ∧ x = y) = false) := decide_eq_false (fun h => e2 h.2.1)
      rw [HD.out]
      have f2 : (q == s) = false := by simpa using e2
      clear HD h1 h2 K
      generalize x.length = n1 at *
      generalize y.length = n2 at *
      go_enter Tryz.func9, Tryz.ntmps9
      go_wp2
      go_ret
      exact ⟨rfl, hb _ _⟩
  · have HD : Hid (decide (p = r ∧ q = s ∧ x = y) = false) := decide_eq_false (fun h => e1 h.1)
    rw [HD.out]
    have f1 : (p == r) = false := by simpa using e1
    clear HD h1 h2 K
    generalize x.length = n1 at *
    generalize y.length = n2 at *
    go_enter Tryz.func9, Tryz.ntmps9
    go_wp2
    go_ret
    exact ⟨rfl, hb _ _⟩
theorem own_under {w : World} {B e size n X : Nat} {v : Value} {xs : List Value} (h : w.ownsRow B e size v n xs) (hX : X < B) (j : Nat) (u : Value) : (w.setCell ⟨X, j, none⟩ u).ownsRow B e size v n xs := by
  refine ⟨h.1, ?_⟩
  rcases h.2 with hh | ⟨g, cap, cur, ev, hg, hc, rest⟩
  · exact .inl hh
  · refine .inr ⟨g, cap, cur, ev, hg, ?_, rest⟩
    rw [heap_setCell w X j _ g (by omega)]
    exact hc
theorem own_low {w : World} {B B' e size n : Nat} {v : Value} {xs : List Value} (h : w.ownsRow B e size v n xs) (hB : B' ≤ B) : w.ownsRow B' e size v n xs := by
  refine ⟨h.1, ?_⟩
  rcases h.2 with hh | ⟨g, cap, cur, ev, hg, rest⟩
  · exact .inl hh
  · exact .inr ⟨g, cap, cur, ev, Nat.le_trans hB hg, rest⟩
section
attribute [local go_sem ↓] kept_append
set_option maxHeartbeats 1600000 in
theorem note_any (c s : Int) (a : Option Addr) (cap : Nat) (d : List Nat) (w : World) (hl : d.length ≤ 100000) (h : BRd w a d) :
    Calls Tryz.prog 24 #[.int .i64 c, .int .i64 s, .slice a d.length cap] w fun e w' => ∃ a9 c9, e = .returned (.agg #[.int .i64 c, .int .i64 s, .slice a9 d.length c9]) ∧ w'.ownsRow w.heap.size 5 1 (.slice a9 d.length c9) d.length (bcells d) ∧ Below w.heap.size w w' := by
  obtain ⟨w1, hw1⟩ : ∃ w1, w1 = w.alloc (.cells #[.int .i64 0, .int .i64 0, .slice none 0 0] 38) := ⟨_, rfl⟩
  have hb1 : Below w.heap.size w w1 := by rw [hw1]; exact (Below.refl _ _).alloc (Nat.le_refl _) _
  have hs1 : w1.heap.size = w.heap.size + 1 := by rw [hw1]; simp
  have hb2 : Below w1.heap.size w1 (w1.alloc (.cells #[] 5)) := (Below.refl _ _).alloc (Nat.le_refl _) _
  have hm : (w1.alloc (.cells #[] 5)).ownsRow w1.heap.size 5 1 (.slice (some ⟨w1.heap.size, 0, none⟩) 0 0) 0 (bcells []) :=
    ⟨rfl, .inr ⟨w1.heap.size, 0, _, rfl, Nat.le_refl _, by unfold World.alloc; exact Array.getElem?_push_size, Nat.le_refl _, by unfold maxLen; omega, rfl, rfl⟩⟩
  obtain ⟨v', w3, hr, ho, hb3⟩ := app_brd (n := 0) (ys := []) d a cap rfl hm hb2.size (by omega) ((h.below hb1).below hb2)
  obtain ⟨a9, c9, rfl⟩ := own_shape ho
  have hlen : (([] : List Nat) ++ d).length = d.length := rfl
  rw [hlen] at hr
  have HO : Hid (w3.ownsRow w1.heap.size 5 1 (.slice a9 d.length c9) d.length (bcells d)) := ho
  have hb13 : Below w1.heap.size w1 w3 := hb2.trans hb3
  have r0 : w3.cell? ⟨w.heap.size, 0, none⟩ = some (.int .i64 0) := by rw [hb13.cell (p := ⟨w.heap.size, 0, none⟩) (by show w.heap.size < _; omega), hw1]; simp [go_sem]
  have r1 : w3.cell? ⟨w.heap.size, 1, none⟩ = some (.int .i64 0) := by rw [hb13.cell (p := ⟨w.heap.size, 1, none⟩) (by show w.heap.size < _; omega), hw1]; simp [go_sem]
  have r2 : w3.cell? ⟨w.heap.size, 2, none⟩ = some (.slice none 0 0) := by rw [hb13.cell (p := ⟨w.heap.size, 2, none⟩) (by show w.heap.size < _; omega), hw1]; simp [go_sem]
  have f0 : w3.frozen? ⟨w.heap.size, 0, none⟩ = false := by rw [hb13.frozen (p := ⟨w.heap.size, 0, none⟩) (by show w.heap.size < _; omega), hw1]; simp [go_sem]
  have f1 : w3.frozen? ⟨w.heap.size, 1, none⟩ = false := by rw [hb13.frozen (p := ⟨w.heap.size, 1, none⟩) (by show w.heap.size < _; omega), hw1]; simp [go_sem]
  have f2 : w3.frozen? ⟨w.heap.size, 2, none⟩ = false := by rw [hb13.frozen (p := ⟨w.heap.size, 2, none⟩) (by show w.heap.size < _; omega), hw1]; simp [go_sem]
  have hz3 : w.heap.size < w3.heap.size := by have := hb13.size; omega
  have HB : Hid (Below w.heap.size w w3) := hb1.trans (hb13.mono hb1.size)
  have HS1 := hide hs1
  rw [hw1] at hr
  simp only [World.size_alloc] at hr
  have HR := hide hr
  clear hr ho hb3 hm hb2 hb13 h hlen hb1 hs1 hw1
  generalize d.length = n at *
  go_enter Tryz.func24, Tryz.ntmps24
  go_wp2_with (refine kept_append_intro _ _ _ _ (.slice a9 n c9) (w' := w3) (by rfl) (by rfl) (by exact HR.out) ?_)
  refine bodyPost_ret (v := .agg #[.int .i64 c, .int .i64 s, .slice a9 n c9]) (by simp [results, Tryz.results24, go_sem, r0, r1, r2]) rfl ⟨a9, c9, rfl, ?_, ?_⟩
  · exact own_low (own_under (own_under (own_under HO.out (by have := HS1.out; omega) _ _) (by have := HS1.out; omega) _ _) (by have := HS1.out; omega) _ _) (by have := HS1.out; omega)
  · exact ((HB.out.setCell (Nat.le_refl _) _).setCell (Nat.le_refl _) _).setCell (Nat.le_refl _) _
end
end Go.Proofs.YtkmfnafecdfedaaGreatDoor
