/- sameSegment, sameRaw, slices.EqualFunc of parts and of Raws. -/
import Derived.Test.YtnblkgffgbiemaaAtQ2
import Derived.Test.YtnblkgffgbiemaaAtOw
import Derived.Shelf.Abstract
namespace Go.Proofs.Ytnblkgffgbiemaa
open Go.RowKit
set_option maxRecDepth 100000

set_option maxHeartbeats 800000 in
theorem sseg_any (b1 b2 : Bool) (a1 a2 : Option Addr) (n1 n2 c1 c2 : Nat) (zs ys : List Int) (w : World) (hz : zs.length = n1) (hy : ys.length = n2) (hb : n1 ≤ 100000) (h1 : IRd w a1 zs) (h2 : IRd w a2 ys) :
    Calls Try.prog 36 #[.agg #[.bool b1, .slice a1 n1 c1], .agg #[.bool b2, .slice a2 n2 c2]] w fun e w' => e = .returned (.bool (decide (((b1, zs) : Bool × List Int) = (b2, ys)))) ∧ Below w.heap.size w w' := by
  have hbb : Below w.heap.size w ((w.alloc (.cells #[.bool b1, .slice a1 n1 c1] 44)).alloc (.cells #[.bool b2, .slice a2 n2 c2] 44)) := ((Below.refl _ _).alloc (Nat.le_refl _) _).alloc (by simp) _
  have K := hide (peq_ints a1 a2 c1 c2 n1 n2 zs ys _ hz hy hb (h1.below hbb) (h2.below hbb))
  have HB := hide hbb
  clear hbb h1 h2
  by_cases he : b1 = b2
  · have HE : Hid (decide (zs = ys) = decide (((b1, zs) : Bool × List Int) = (b2, ys))) := by show decide _ = decide _; rw [decide_eq_decide]; simp [he]
    have ht : (b1 == b2) = true := by simpa using he
    clear he
    go_enter Try.func36, Try.ntmps36
    go_wp2_with fail
    refine K.out.mono ?_
    rintro e w1 ⟨rfl, m, hm⟩
    have HB1 : Hid (Below w.heap.size w w1) := by show Below _ _ _; rw [hm]; exact below_drewN HB.out m
    clear hm
    go_wp2
    go_ret
    exact ⟨ret_bool HE.out, HB1.out⟩
  · have HE : Hid (decide (((b1, zs) : Bool × List Int) = (b2, ys)) = false) := decide_eq_false (fun e => he (by injection e))
    have ht : (b1 == b2) = false := by simpa using he
    clear he
    go_enter Try.func36, Try.ntmps36
    go_wp2
    go_ret
    exact ⟨ret_bool HE.out.symm, HB.out⟩
set_option maxHeartbeats 800000 in
theorem sraw_any (f1 t1 f2 t2 : Int) (a1 a2 : Option Addr) (n1 n2 c1 c2 : Nat) (zs ys : List Nat) (w : World) (hz : zs.length = n1) (hy : ys.length = n2) (h1 : BRd w a1 zs) (h2 : BRd w a2 ys) :
    Calls Try.prog 39 #[.agg #[.int .i64 f1, .int .i64 t1, .slice a1 n1 c1], .agg #[.int .i64 f2, .int .i64 t2, .slice a2 n2 c2]] w fun e w' => e = .returned (.bool (decide (((f1, t1, zs) : Int × Int × List Nat) = (f2, t2, ys)))) ∧ Below w.heap.size w w' := by
  have hbb : Below w.heap.size w ((w.alloc (.cells #[.int .i64 f1, .int .i64 t1, .slice a1 n1 c1] 47)).alloc (.cells #[.int .i64 f2, .int .i64 t2, .slice a2 n2 c2] 47)) := ((Below.refl _ _).alloc (Nat.le_refl _) _).alloc (by simp) _
  have K := hide (peq_bytes a1 a2 c1 c2 n1 n2 zs ys _ hz hy (h1.below hbb) (h2.below hbb))
  have HB := hide hbb
  clear hbb h1 h2
  by_cases he : f1 = f2
  · have ht : (f1 == f2) = true := by simpa using he
    by_cases he2 : t1 = t2
    · have HE : Hid (decide (zs = ys) = decide (((f1, t1, zs) : Int × Int × List Nat) = (f2, t2, ys))) := by show decide _ = decide _; rw [decide_eq_decide]; simp [he, he2]
      have ht2 : (t1 == t2) = true := by simpa using he2
      clear he he2
      go_enter Try.func39, Try.ntmps39
      go_wp2_with fail
      refine K.out.mono ?_
      rintro e w1 ⟨rfl, hm⟩
      have HB1 : Hid (Below w.heap.size w w1) := by show Below _ _ _; rw [hm]; exact HB.out
      clear hm
      go_wp2
      go_ret
      exact ⟨ret_bool HE.out, HB1.out⟩
    · have HE : Hid (decide (((f1, t1, zs) : Int × Int × List Nat) = (f2, t2, ys)) = false) := decide_eq_false (fun e => he2 (by injection e with _ e2; injection e2))
      have ht2 : (t1 == t2) = false := by simpa using he2
      clear he he2
      go_enter Try.func39, Try.ntmps39
      go_wp2
      go_ret
      exact ⟨ret_bool HE.out.symm, HB.out⟩
  · have HE : Hid (decide (((f1, t1, zs) : Int × Int × List Nat) = (f2, t2, ys)) = false) := decide_eq_false (fun e => he (by injection e))
    have ht : (f1 == f2) = false := by simpa using he
    clear he
    go_enter Try.func39, Try.ntmps39
    go_wp2
    go_ret
    exact ⟨ret_bool HE.out.symm, HB.out⟩
set_option maxHeartbeats 400000 in
theorem efs_len (a1 a2 : Option Addr) (n1 n2 c1 c2 : Nat) (w : World) (h : n1 ≠ n2) : Calls Try.prog 35 #[.slice a1 n1 c1, .slice a2 n2 c2, .func (.func 36) #[] #[]] w fun e w' => e = .returned (.bool false) ∧ Below w.heap.size w w' := by
  have e0 : ((n1 : Int) != (n2 : Int)) = true := by simp; omega
  clear h
  go_enter Try.func35, Try.ntmps35
  go_wp2
  go_ret
  exact ⟨rfl, Below.refl _ _⟩
set_option maxHeartbeats 400000 in
theorem efs_empty (a1 a2 : Option Addr) (c1 c2 : Nat) (w : World) : Calls Try.prog 35 #[.slice a1 0 c1, .slice a2 0 c2, .func (.func 36) #[] #[]] w fun e w' => e = .returned (.bool true) ∧ Below w.heap.size w w' := by
  go_enter Try.func35, Try.ntmps35
  go_wp2
  go_loopw [17] (fun i wq => i = .int .i64 0 ∧ wq = w) (fun i _ => 0 - (intOf i).toNat)
  case atStart => exact ⟨rfl, rfl⟩
  case round =>
    obtain ⟨rfl, rfl⟩ := hrel
    go_wp2
    go_ret
    exact ⟨rfl, Below.refl _ _⟩
set_option maxHeartbeats 1600000 in
theorem efs_some (g1 o1 g2 o2 l c1 c2 : Nat) (p q : List (Bool × List Int)) (w : World) (hp : p.length = l) (hq : q.length = l) (hb : l ≤ 100000) (hs : ∀ s ∈ p, s.2.length ≤ 100000)
    (h1 : ∀ (i : Nat) (s : Bool × List Int), p[i]? = some s → w.cell? ⟨g1, o1 + i * 2, none⟩ = some (.bool s.1) ∧ ∃ a' c', w.cell? ⟨g1, o1 + i * 2 + 1, none⟩ = some (.slice a' s.2.length c') ∧ IRd w a' s.2)
    (h2 : ∀ (i : Nat) (s : Bool × List Int), q[i]? = some s → w.cell? ⟨g2, o2 + i * 2, none⟩ = some (.bool s.1) ∧ ∃ a' c', w.cell? ⟨g2, o2 + i * 2 + 1, none⟩ = some (.slice a' s.2.length c') ∧ IRd w a' s.2) :
    Calls Try.prog 35 #[.slice (some ⟨g1, o1, none⟩) l c1, .slice (some ⟨g2, o2, none⟩) l c2, .func (.func 36) #[] #[]] w fun e w' => e = .returned (.bool (decide (p = q))) ∧ Below w.heap.size w w' := by
  have eg : ∀ args w, (callFunc 36 args).run Try.prog w = .ok (.enter 36 args) w := enters_of Try.func36 (by kernel_rfl) rfl
  have H1 := hide h1
  have H2 := hide h2
  have HP := hide hp
  have HQ := hide hq
  have HS := hide hs
  clear h1 h2 hp hq hs
  go_enter Try.func35, Try.ntmps35
  go_wp2
  go_loopw [17] (fun i wq => ∃ k : Nat, k ≤ l ∧ i = .int .i64 k ∧ Hid (Below w.heap.size w wq) ∧ Hid (p.take k = q.take k)) (fun i _ => l - (intOf i).toNat)
  case atStart => exact ⟨0, Nat.zero_le _, rfl, Below.refl _ _, rfl⟩
  case round =>
    obtain ⟨k, hk, rfl, HB, HT⟩ := hrel
    by_cases hlt : k < l
    · have hkp : k < p.length := by rw [HP.out]; exact hlt
      have hkq : k < q.length := by rw [HQ.out]; exact hlt
      obtain ⟨x0, a1, d1, x1, r1⟩ := H1.out k p[k] (List.getElem?_eq_getElem hkp)
      obtain ⟨y0, a2, d2, y1, r2⟩ := H2.out k q[k] (List.getElem?_eq_getElem hkq)
      have HNE : Hid (decide (p[k] = q[k]) = false → decide (p = q) = false) := fun h => decide_eq_false (fun e => of_decide_eq_false h (by subst e; rfl))
      have HTK : Hid (decide (p[k] = q[k]) = true → p.take (k + 1) = q.take (k + 1)) := fun h => by rw [List.take_succ_eq_append_getElem hkp, List.take_succ_eq_append_getElem hkq, HT.out, of_decide_eq_true h]
      have zx := World.block_lt_of_cell? w _ x0
      have zy := World.block_lt_of_cell? w _ y0
      simp only at zx zy
      rw [← HB.out.cell (p := ⟨g1, o1 + k * 2, none⟩) zx] at x0
      rw [← HB.out.cell (p := ⟨g1, o1 + k * 2 + 1, none⟩) zx] at x1
      rw [← HB.out.cell (p := ⟨g2, o2 + k * 2, none⟩) zy] at y0
      rw [← HB.out.cell (p := ⟨g2, o2 + k * 2 + 1, none⟩) zy] at y1
      have wx : g1 < wr.heap.size := Nat.lt_of_lt_of_le zx HB.out.size
      have wy : g2 < wr.heap.size := Nat.lt_of_lt_of_le zy HB.out.size
      have hsk := HS.out p[k] (List.getElem_mem hkp)
      have KC : Hid (∀ w1, Below w.heap.size w w1 → Calls Try.prog 36 #[.agg #[.bool (p[k]).1, .slice a1 (p[k]).2.length d1], .agg #[.bool (q[k]).1, .slice a2 (q[k]).2.length d2]] w1 fun e w' => e = .returned (.bool (decide (p[k] = q[k]))) ∧ Below w1.heap.size w1 w') := fun w1 hb1 => sseg_any (p[k]).1 (q[k]).1 a1 a2 _ _ d1 d2 (p[k]).2 (q[k]).2 w1 rfl rfl hsk (r1.below hb1) (r2.below hb1)
      have HBB : Hid (∀ x y, Below w.heap.size w ((wr.alloc x).alloc y)) := fun x y => (HB.out.alloc HB.out.size _).alloc (by have := HB.out.size; simp; omega) _
      clear hsk r1 r2
      generalize decide (p[k] = q[k]) = g at *
      generalize (p[k]).1 = s1 at *
      generalize (q[k]).1 = s2 at *
      generalize (p[k]).2.length = l1 at *
      generalize (q[k]).2.length = l2 at *
      have hk0 : (0 : Int) ≤ (k : Int) := Int.natCast_nonneg _
      have hk1 : (k : Int) < (l : Int) := by omega
      go_wp2_with fail
      refine (KC.out _ (HBB.out _ _)).mono ?_
      rintro e w2 ⟨rfl, hb2⟩
      have HB2 : Hid (Below w.heap.size w w2) := (HBB.out _ _).trans (hb2.mono (HBB.out _ _).size)
      clear hb2 KC HBB
      cases g with
      | true =>
        have HT2 := hide (HTK.out rfl)
        go_wp2
        exact ⟨⟨k + 1, by omega, by go_num, HB2, HT2⟩, by simp [intOf]; omega⟩
      | false =>
        have HG := hide (HNE.out rfl)
        go_wp2
        go_ret
        exact ⟨ret_bool HG.out.symm, HB2.out⟩
    · have HE : Hid (decide (p = q) = true) := decide_eq_true (by
        have := HT.out
        rw [List.take_of_length_le (by rw [HP.out]; omega), List.take_of_length_le (by rw [HQ.out]; omega)] at this
        exact this)
      go_wp2
      go_ret
      exact ⟨ret_bool HE.out.symm, HB.out⟩
set_option maxHeartbeats 400000 in
theorem efr_len (a1 a2 : Option Addr) (n1 n2 c1 c2 : Nat) (w : World) (h : n1 ≠ n2) : Calls Try.prog 38 #[.slice a1 n1 c1, .slice a2 n2 c2, .func (.func 39) #[] #[]] w fun e w' => e = .returned (.bool false) ∧ Below w.heap.size w w' := by
  have e0 : ((n1 : Int) != (n2 : Int)) = true := by simp; omega
  clear h
  go_enter Try.func38, Try.ntmps38
  go_wp2
  go_ret
  exact ⟨rfl, Below.refl _ _⟩
set_option maxHeartbeats 400000 in
theorem efr_empty (a1 a2 : Option Addr) (c1 c2 : Nat) (w : World) : Calls Try.prog 38 #[.slice a1 0 c1, .slice a2 0 c2, .func (.func 39) #[] #[]] w fun e w' => e = .returned (.bool true) ∧ Below w.heap.size w w' := by
  go_enter Try.func38, Try.ntmps38
  go_wp2
  go_loopw [17] (fun i wq => i = .int .i64 0 ∧ wq = w) (fun i _ => 0 - (intOf i).toNat)
  case atStart => exact ⟨rfl, rfl⟩
  case round =>
    obtain ⟨rfl, rfl⟩ := hrel
    go_wp2
    go_ret
    exact ⟨rfl, Below.refl _ _⟩
set_option maxHeartbeats 1600000 in
theorem efr_some (g1 o1 g2 o2 l c1 c2 : Nat) (p q : List (Int × Int × List Nat)) (w : World) (hp : p.length = l) (hq : q.length = l) (hb : l ≤ 100000) (hs : ∀ s ∈ p, s.2.2.length ≤ 100000)
    (h1 : RawAt w g1 o1 p)
    (h2 : RawAt w g2 o2 q) :
    Calls Try.prog 38 #[.slice (some ⟨g1, o1, none⟩) l c1, .slice (some ⟨g2, o2, none⟩) l c2, .func (.func 39) #[] #[]] w fun e w' => e = .returned (.bool (decide (p = q))) ∧ Below w.heap.size w w' := by
  have eg : ∀ args w, (callFunc 39 args).run Try.prog w = .ok (.enter 39 args) w := enters_of Try.func39 (by kernel_rfl) rfl
  have H1 := hide h1
  have H2 := hide h2
  have HP := hide hp
  have HQ := hide hq
  have HS := hide hs
  clear h1 h2 hp hq hs
  go_enter Try.func38, Try.ntmps38
  go_wp2
  go_loopw [17] (fun i wq => ∃ k : Nat, k ≤ l ∧ i = .int .i64 k ∧ Hid (Below w.heap.size w wq) ∧ Hid (p.take k = q.take k)) (fun i _ => l - (intOf i).toNat)
  case atStart => exact ⟨0, Nat.zero_le _, rfl, Below.refl _ _, rfl⟩
  case round =>
    obtain ⟨k, hk, rfl, HB, HT⟩ := hrel
    by_cases hlt : k < l
    · have hkp : k < p.length := by rw [HP.out]; exact hlt
      have hkq : k < q.length := by rw [HQ.out]; exact hlt
      obtain ⟨x0, x1, a1, d1, x2, _, r1⟩ := H1.out k p[k] (List.getElem?_eq_getElem hkp)
      obtain ⟨y0, y1, a2, d2, y2, _, r2⟩ := H2.out k q[k] (List.getElem?_eq_getElem hkq)
      have HNE : Hid (decide (p[k] = q[k]) = false → decide (p = q) = false) := fun h => decide_eq_false (fun e => of_decide_eq_false h (by subst e; rfl))
      have HTK : Hid (decide (p[k] = q[k]) = true → p.take (k + 1) = q.take (k + 1)) := fun h => by rw [List.take_succ_eq_append_getElem hkp, List.take_succ_eq_append_getElem hkq, HT.out, of_decide_eq_true h]
      have zx := World.block_lt_of_cell? w _ x0
      have zy := World.block_lt_of_cell? w _ y0
      simp only at zx zy
      rw [← HB.out.cell (p := ⟨g1, o1 + k * 3, none⟩) zx] at x0
      rw [← HB.out.cell (p := ⟨g1, o1 + k * 3 + 1, none⟩) zx] at x1
      rw [← HB.out.cell (p := ⟨g1, o1 + k * 3 + 2, none⟩) zx] at x2
      rw [← HB.out.cell (p := ⟨g2, o2 + k * 3, none⟩) zy] at y0
      rw [← HB.out.cell (p := ⟨g2, o2 + k * 3 + 1, none⟩) zy] at y1
      rw [← HB.out.cell (p := ⟨g2, o2 + k * 3 + 2, none⟩) zy] at y2
      have wx : g1 < wr.heap.size := Nat.lt_of_lt_of_le zx HB.out.size
      have wy : g2 < wr.heap.size := Nat.lt_of_lt_of_le zy HB.out.size
      have hsk := HS.out p[k] (List.getElem_mem hkp)
      have KC : Hid (∀ w1, Below w.heap.size w w1 → Calls Try.prog 39 #[.agg #[.int .i64 (p[k]).1, .int .i64 (p[k]).2.1, .slice a1 (p[k]).2.2.length d1], .agg #[.int .i64 (q[k]).1, .int .i64 (q[k]).2.1, .slice a2 (q[k]).2.2.length d2]] w1 fun e w' => e = .returned (.bool (decide (p[k] = q[k]))) ∧ Below w1.heap.size w1 w') := fun w1 hb1 => sraw_any (p[k]).1 (p[k]).2.1 (q[k]).1 (q[k]).2.1 a1 a2 _ _ d1 d2 (p[k]).2.2 (q[k]).2.2 w1 rfl rfl (r1.below hb1) (r2.below hb1)
      have HBB : Hid (∀ x y, Below w.heap.size w ((wr.alloc x).alloc y)) := fun x y => (HB.out.alloc HB.out.size _).alloc (by have := HB.out.size; simp; omega) _
      clear hsk r1 r2
      generalize decide (p[k] = q[k]) = g at *
      generalize (p[k]).1 = s1 at *
      generalize (q[k]).1 = s2 at *
      generalize (p[k]).2.1 = t1 at *
      generalize (q[k]).2.1 = t2 at *
      generalize (p[k]).2.2.length = l1 at *
      generalize (q[k]).2.2.length = l2 at *
      have hk0 : (0 : Int) ≤ (k : Int) := Int.natCast_nonneg _
      have hk1 : (k : Int) < (l : Int) := by omega
      go_wp2_with fail
      refine (KC.out _ (HBB.out _ _)).mono ?_
      rintro e w2 ⟨rfl, hb2⟩
      have HB2 : Hid (Below w.heap.size w w2) := (HBB.out _ _).trans (hb2.mono (HBB.out _ _).size)
      clear hb2 KC HBB
      cases g with
      | true =>
        have HT2 := hide (HTK.out rfl)
        go_wp2
        exact ⟨⟨k + 1, by omega, by go_num, HB2, HT2⟩, by simp [intOf]; omega⟩
      | false =>
        have HG := hide (HNE.out rfl)
        go_wp2
        go_ret
        exact ⟨ret_bool HG.out.symm, HB2.out⟩
    · have HE : Hid (decide (p = q) = true) := decide_eq_true (by
        have := HT.out
        rw [List.take_of_length_le (by rw [HP.out]; omega), List.take_of_length_le (by rw [HQ.out]; omega)] at this
        exact this)
      go_wp2
      go_ret
      exact ⟨ret_bool HE.out.symm, HB.out⟩
end Go.Proofs.Ytnblkgffgbiemaa
