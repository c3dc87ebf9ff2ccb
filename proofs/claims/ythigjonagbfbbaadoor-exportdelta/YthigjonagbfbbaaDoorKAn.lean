/- The program's rules: isRight, meets, Covers. -/
import Derived.Test.YthigjonagbfbbaaDoorKAm
import Derived.Deep.RegionHeld3
import Derived.Deep.RegionWith
namespace Go.Proofs.YthigjonagbfbbaaDoor
open Go.RowKit
set_option maxRecDepth 100000

theorem bcell {W w1 : World} (hb : Below W.heap.size W w1) : (∀ b o, b < W.heap.size → w1.cell? ⟨b, o, none⟩ = W.cell? ⟨b, o, none⟩) ∧ (∀ b o, b < W.heap.size → w1.frozen? ⟨b, o, none⟩ = W.frozen? ⟨b, o, none⟩) :=
  ⟨fun b o h => hb.cell (p := ⟨b, o, none⟩) h, fun b o h => hb.frozen (p := ⟨b, o, none⟩) h⟩
set_option maxHeartbeats 400000 in
theorem isRight_out (A : Nat) (L : Int) (w : World) (h : L < 0 ∨ 32 < L) : Calls Tryd.prog 87 #[pfx A L] w fun e w' => e = .returned (.bool (rightB A L)) ∧ Below w.heap.size w w' := by
  have HR := hide (rightB_out A L h)
  unfold pfx
  go_enter Tryd.func87, Tryd.ntmps87
  go_wp2_with fail
  refine (make_out A L _ h).mono ?_
  rintro e w1 ⟨rfl, hb⟩
  unfold pfx
  have HB := hide hb
  clear hb
  go_wp2
  go_ret
  exact ⟨ret_bool HR.out.symm, (((Below.refl _ _).alloc (Nat.le_refl _) _).trans (HB.out.mono (by simp))).alloc (by have := HB.out.size; simp at this; omega) _⟩
set_option maxHeartbeats 400000 in
theorem isRight_in (A n : Nat) (w : World) (hA : A < 4294967296) (hn : n ≤ 32) : Calls Tryd.prog 87 #[pfx A n] w fun e w' => e = .returned (.bool (rightB A n)) ∧ Below w.heap.size w w' := by
  unfold pfx
  go_enter Tryd.func87, Tryd.ntmps87
  go_wp2_with fail
  refine (make_in A n _ hA hn).mono ?_
  rintro e w1 ⟨rfl, hb⟩
  unfold pfx
  have c0 : w1.cell? ⟨w.heap.size, 0, none⟩ = some (.int .u32 (A : Int)) := by rw [hb.cell (p := ⟨w.heap.size, 0, none⟩) (by simp)]; simp [go_sem]
  have c1 : w1.cell? ⟨w.heap.size, 1, none⟩ = some (.int .i64 (n : Int)) := by rw [hb.cell (p := ⟨w.heap.size, 1, none⟩) (by simp)]; simp [go_sem]
  have hz : w.heap.size < w1.heap.size := by have := hb.size; simp at this; omega
  have HB := hide hb
  clear hb
  go_wp2
  · rename_i h
    go_ret
    exact ⟨ret_bool (by rw [rightB_nat A n hn]; exact (decide_eq_true (by omega)).symm), (((Below.refl _ _).alloc (Nat.le_refl _) _).trans (HB.out.mono (by simp))).alloc (by omega) _⟩
  · rename_i h
    go_ret
    exact ⟨ret_bool (by rw [rightB_nat A n hn]; exact (decide_eq_false (by omega)).symm), (((Below.refl _ _).alloc (Nat.le_refl _) _).trans (HB.out.mono (by simp))).alloc (by omega) _⟩
theorem isRight_any (A : Nat) (L : Int) (w : World) (hA : A < 4294967296) : Calls Tryd.prog 87 #[pfx A L] w fun e w' => e = .returned (.bool (rightB A L)) ∧ Below w.heap.size w w' := by
  by_cases h : L < 0 ∨ 32 < L
  · exact isRight_out A L w h
  · obtain ⟨n, rfl⟩ := Int.eq_ofNat_of_zero_le (show 0 ≤ L by omega)
    exact isRight_in A n w hA (by omega)
/-- Do the first n hold? -/
def allUp (rb : Nat → Bool) : Nat → Bool
  | 0 => true
  | n + 1 => allUp rb n && rb n
theorem allUp_false (rb : Nat → Bool) (k : Nat) (h : rb k = false) : ∀ n, k < n → allUp rb n = false
  | 0, hk => absurd hk (by omega)
  | n + 1, hk => by
    by_cases e : k = n
    · subst e; simp [allUp, h]
    · simp [allUp, allUp_false rb k h n (by omega)]
set_option maxHeartbeats 400000 in
theorem meets_any (b o n c A : Nat) (L : Int) (fs : Nat → Nat) (caps : Nat → Array Value) (rb : Nat → Bool) (w : World) (hn : n ≤ 3)
    (hcell : ∀ i, i < n → w.cell? ⟨b, o + i, none⟩ = some (.func (.func (fs i)) #[] (caps i)))
    (hent : ∀ i, i < n → ∀ args w, (callFunc (fs i) args).run Tryd.prog w = .ok (.enter (fs i) args) w)
    (hcall : ∀ i, i < n → ∀ w1, Below w.heap.size w w1 → Calls Tryd.prog (fs i) (#[pfx A L] ++ caps i) w1 fun e w2 => e = .returned (.bool (rb i)) ∧ Below w1.heap.size w1 w2) :
    Calls Tryd.prog 86 #[pfx A L, .slice (some ⟨b, o, none⟩) n c] w fun e w' => e = .returned (.bool (allUp rb n)) ∧ Below w.heap.size w w' := by
  have HC := hide hcell
  have HE := hide hent
  have HK := hide hcall
  clear hcell hcall hent
  unfold pfx
  go_enter Tryd.func86, Tryd.ntmps86
  go_wp2
  go_loopw [9] (fun i wq => ∃ k : Nat, k ≤ n ∧ i = .int .i64 k ∧ Hid (allUp rb k = true) ∧ Hid (Below w.heap.size w wq) ∧ w.heap.size < wq.heap.size ∧ wq.cell? ⟨w.heap.size, 0, none⟩ = some (.int .u32 (A : Int)) ∧ wq.cell? ⟨w.heap.size, 1, none⟩ = some (.int .i64 L)) (fun i _ => n - (intOf i).toNat)
  case atStart => exact ⟨0, Nat.zero_le _, rfl, rfl, (Below.refl _ _).alloc (Nat.le_refl _) _, by simp, by simp [go_sem], by simp [go_sem]⟩
  case round =>
    obtain ⟨k, hk, rfl, HA, HB, hz, c0, c1⟩ := hrel
    by_cases hlt : k < n
    · have ck : wr.cell? ⟨b, o + k, none⟩ = some (.func (.func (fs k)) #[] (caps k)) := by
        rw [(Keeps.of_below HB.out (fun _ => False)).cell _ (World.block_lt_of_cell? w _ (HC.out k hlt)) (fun h => h)]
        exact HC.out k hlt
      have ek := HE.out k hlt
      have hk0 : (0 : Int) ≤ (k : Int) := Int.natCast_nonneg _
      have hk1 : (k : Int) < (n : Int) := by omega
      go_wp2_with fail
      refine (HK.out k hlt wr HB.out).mono ?_
      rintro e w2 ⟨rfl, hb2⟩
      have d0 : w2.cell? ⟨w.heap.size, 0, none⟩ = some (.int .u32 (A : Int)) := by rw [hb2.cell (p := ⟨w.heap.size, 0, none⟩) hz]; exact c0
      have d1 : w2.cell? ⟨w.heap.size, 1, none⟩ = some (.int .i64 L) := by rw [hb2.cell (p := ⟨w.heap.size, 1, none⟩) hz]; exact c1
      have HB2 : Hid (Below w.heap.size w w2) := HB.out.trans (hb2.mono HB.out.size)
      have hz2 : w.heap.size < w2.heap.size := Nat.lt_of_lt_of_le hz hb2.size
      clear hb2 c0 c1 ck ek
      cases hr : rb k with
      | true =>
        have HR := hide hr
        clear hr
        go_wp2
        exact ⟨⟨k + 1, by omega, by go_num, show allUp rb (k + 1) = true by simp [allUp, HA.out, HR.out], HB2, hz2, d0, d1⟩, by simp [intOf]; omega⟩
      | false =>
        have HR := hide hr
        clear hr
        go_wp2
        go_ret
        exact ⟨ret_bool (allUp_false rb k HR.out n hlt).symm, HB2.out⟩
    · go_wp2
      go_ret
      exact ⟨ret_bool (by rw [← HA.out, show k = n from by omega]), HB.out⟩
theorem meets_one (A : Nat) (L : Int) (w : World) (hA : A < 4294967296) (b c : Nat) (h : w.cell? ⟨b, 0, none⟩ = some (.func (.func 87) #[] #[])) :
    Calls Tryd.prog 86 #[pfx A L, .slice (some ⟨b, 0, none⟩) 1 c] w fun e w' => e = .returned (.bool (rightB A L)) ∧ Below w.heap.size w w' := by
  refine (meets_any b 0 1 c A L (fun _ => 87) (fun _ => #[]) (fun _ => rightB A L) w (by omega) (fun i hi => ?_) (fun _ _ => Tryd.call87) (fun _ _ w1 _ => isRight_any A L w1 hA)).mono ?_
  · obtain rfl : i = 0 := by omega
    exact h
  · rintro e w' ⟨he, hb⟩
    exact ⟨by rw [he]; exact ret_bool (by simp [allUp]), hb⟩
set_option maxHeartbeats 400000 in
theorem atLeast1_any (B : Nat) (M L : Int) (w : World) (x : Nat) (h : w.cell? ⟨x, 0, none⟩ = some (.int .i64 L)) :
    Calls Tryd.prog 93 #[pfx B M, .pointer (some ⟨x, 0, none⟩)] w fun e w' => e = .returned (.bool (decide (L ≤ M))) ∧ Below w.heap.size w w' := by
  have hz := World.block_lt_of_cell? w _ h
  simp only at hz
  unfold pfx
  go_enter Tryd.func93, Tryd.ntmps93
  go_wp2
  go_ret
  exact ⟨rfl, (Below.refl _ _).alloc (Nat.le_refl _) _⟩
set_option maxHeartbeats 400000 in
theorem begins1_in (A B n : Nat) (M : Int) (w : World) (hB : B < 4294967296) (hn : n ≤ 32) (x : Nat) (h0 : w.cell? ⟨x, 0, none⟩ = some (.int .u32 (A : Int))) (h1 : w.cell? ⟨x, 1, none⟩ = some (.int .i64 (n : Int))) :
    Calls Tryd.prog 94 #[pfx B M, .pointer (some ⟨x, 0, none⟩)] w fun e w' => e = .returned (.bool (decide (cutTo B n = A))) ∧ Below w.heap.size w w' := by
  have hz := World.block_lt_of_cell? w _ h0
  simp only at hz
  unfold pfx
  go_enter Tryd.func94, Tryd.ntmps94
  go_wp2_with fail
  refine (make_in B n _ hB hn).mono ?_
  rintro e w1 ⟨rfl, hb⟩
  unfold pfx
  have c0 : w1.cell? ⟨x, 0, none⟩ = some (.int .u32 (A : Int)) := by rw [hb.cell (p := ⟨x, 0, none⟩) (by simp; omega), World.cell?_alloc_lt _ _ _ (by exact hz)]; exact h0
  have c1 : w1.cell? ⟨x, 1, none⟩ = some (.int .i64 (n : Int)) := by rw [hb.cell (p := ⟨x, 1, none⟩) (by simp; omega), World.cell?_alloc_lt _ _ _ (by exact hz)]; exact h1
  have hz1 : w.heap.size < w1.heap.size := by have := hb.size; simp at this; omega
  have hz2 : x < w1.heap.size := by omega
  have HB := hide hb
  clear hb h0 h1
  go_wp2
  · rename_i h
    go_ret
    exact ⟨ret_bool (decide_eq_true (by omega)).symm, (((Below.refl _ _).alloc (Nat.le_refl _) _).trans (HB.out.mono (by simp))).alloc (by omega) _⟩
  · rename_i h
    go_ret
    exact ⟨ret_bool (decide_eq_false (by omega)).symm, (((Below.refl _ _).alloc (Nat.le_refl _) _).trans (HB.out.mono (by simp))).alloc (by omega) _⟩
set_option maxHeartbeats 400000 in
theorem atLeast_any (L : Int) (w : World) : Calls Tryd.prog 88 #[.int .i64 L] w fun e w' => e = .returned (.func (.func 93) #[] #[.pointer (some ⟨w.heap.size, 0, none⟩)]) ∧ w' = w.alloc (.cells #[.int .i64 L] 3) := by
  go_enter Tryd.func88, Tryd.ntmps88
  go_wp2
  go_ret
  exact ⟨rfl, rfl⟩
set_option maxHeartbeats 400000 in
theorem begins_any (A : Nat) (L : Int) (w : World) : Calls Tryd.prog 89 #[pfx A L] w fun e w' => e = .returned (.func (.func 94) #[] #[.pointer (some ⟨w.heap.size, 0, none⟩)]) ∧ w' = w.alloc (.cells #[.int .u32 (A : Int), .int .i64 L] 29) := by
  unfold pfx
  go_enter Tryd.func89, Tryd.ntmps89
  go_wp2
  go_ret
  exact ⟨rfl, rfl⟩
theorem meets_three (A n B : Nat) (M : Int) (w : World) (hn : n ≤ 32) (hB : B < 4294967296) (b c x y : Nat) (h0 : w.cell? ⟨b, 0, none⟩ = some (.func (.func 87) #[] #[]))
    (h1 : w.cell? ⟨b, 1, none⟩ = some (.func (.func 93) #[] #[.pointer (some ⟨x, 0, none⟩)])) (h2 : w.cell? ⟨b, 2, none⟩ = some (.func (.func 94) #[] #[.pointer (some ⟨y, 0, none⟩)]))
    (hx : w.cell? ⟨x, 0, none⟩ = some (.int .i64 (n : Int))) (hy0 : w.cell? ⟨y, 0, none⟩ = some (.int .u32 (A : Int))) (hy1 : w.cell? ⟨y, 1, none⟩ = some (.int .i64 (n : Int))) (ha : rightB A n = true) :
    Calls Tryd.prog 86 #[pfx B M, .slice (some ⟨b, 0, none⟩) 3 c] w fun e w' => e = .returned (.bool (covB A n B M)) ∧ Below w.heap.size w w' := by
  refine (meets_any b 0 3 c B M (fun i => if i = 0 then 87 else if i = 1 then 93 else 94) (fun i => if i = 0 then #[] else if i = 1 then #[.pointer (some ⟨x, 0, none⟩)] else #[.pointer (some ⟨y, 0, none⟩)])
    (fun i => if i = 0 then rightB B M else if i = 1 then decide ((n : Int) ≤ M) else decide (cutTo B n = A)) w (by omega) (fun i hi => ?_) (fun i hi => ?_) (fun i hi w1 hw1 => ?_)).mono ?_
  · match i, hi with
    | 0, _ => exact h0
    | 1, _ => exact h1
    | 2, _ => exact h2
  · match i, hi with
    | 0, _ => exact Tryd.call87
    | 1, _ => exact Tryd.call93
    | 2, _ => exact Tryd.call94
  · match i, hi with
    | 0, _ => exact isRight_any B M w1 hB
    | 1, _ => exact atLeast1_any B M n w1 x (by rw [hw1.cell (p := ⟨x, 0, none⟩) (World.block_lt_of_cell? w _ hx)]; exact hx)
    | 2, _ => exact begins1_in A B n M w1 hB hn y (by rw [hw1.cell (p := ⟨y, 0, none⟩) (World.block_lt_of_cell? w _ hy0)]; exact hy0) (by rw [hw1.cell (p := ⟨y, 1, none⟩) (World.block_lt_of_cell? w _ hy1)]; exact hy1)
  · rintro e w' ⟨he, hb⟩
    exact ⟨by rw [he]; exact ret_bool (by simp [allUp, covB, ha]), hb⟩
end Go.Proofs.YthigjonagbfbbaaDoor
/- The program's Covers. -/
namespace Go.Proofs.YthigjonagbfbbaaDoor
open Go.RowKit
set_option maxRecDepth 100000

set_option maxHeartbeats 3200000 in
theorem covers_yes (A n B : Nat) (M : Int) (w : World) (hA : A < 4294967296) (hB : B < 4294967296) (h : rightB A n = true) (hn : n ≤ 32) :
    Calls Tryd.prog 74 #[pfx A n, pfx B M] w fun e w' => e = .returned (.bool (covB A n B M)) ∧ Below w.heap.size w w' := by
  have HR := hide h
  clear h
  unfold pfx
  go_enter Tryd.func74, Tryd.ntmps74
  go_wp2_with fail
  first
  | fail
  | (go_region_held3 (fun w' => w'.cell? ⟨w.heap.size, 0, none⟩ = some (.int .u32 (A : Int)) ∧ w'.cell? ⟨w.heap.size, 1, none⟩ = some (.int .i64 (n : Int)) ∧ w'.cell? ⟨w.heap.size + 1, 0, none⟩ = some (.int .u32 (B : Int)) ∧ w'.cell? ⟨w.heap.size + 1, 1, none⟩ = some (.int .i64 M))
      (first
        | (go_split_ands; refine ⟨?_, ?_, ?_, ?_⟩ <;> (first | assumption | (simp [go_sem]; done) | (rw [World.cell?_alloc_lt _ _ _ (by simp <;> omega)]; assumption))))
      (first
        | (have HB1 := HB; go_at_call 86; refine (meets_three A n B M _ hn hB _ 3 w1.heap.size (w1.heap.size + 1) (by simp [go_sem]) (by simp [go_sem]) (by simp [go_sem]) (by simp [go_sem]) (by simp [go_sem]) (by simp [go_sem]) HR.out).mono ?_; rintro e w4 ⟨rfl, hb⟩; have r0 : w4.cell? ⟨w.heap.size, 0, none⟩ = some (.int .u32 (A : Int)) := (by rw [hb.cell (p := ⟨w.heap.size, 0, none⟩) (by simp <;> omega), World.cell?_alloc_lt _ _ _ (by simp <;> omega), World.cell?_alloc_lt _ _ _ (by simp <;> omega), World.cell?_alloc_lt _ _ _ (by simp <;> omega)]; exact q0); have r1 : w4.cell? ⟨w.heap.size, 1, none⟩ = some (.int .i64 (n : Int)) := (by rw [hb.cell (p := ⟨w.heap.size, 1, none⟩) (by simp <;> omega), World.cell?_alloc_lt _ _ _ (by simp <;> omega), World.cell?_alloc_lt _ _ _ (by simp <;> omega), World.cell?_alloc_lt _ _ _ (by simp <;> omega)]; exact q1); have r2 : w4.cell? ⟨w.heap.size + 1, 0, none⟩ = some (.int .u32 (B : Int)) := (by rw [hb.cell (p := ⟨w.heap.size + 1, 0, none⟩) (by simp <;> omega), World.cell?_alloc_lt _ _ _ (by simp <;> omega), World.cell?_alloc_lt _ _ _ (by simp <;> omega), World.cell?_alloc_lt _ _ _ (by simp <;> omega)]; exact q2); have r3 : w4.cell? ⟨w.heap.size + 1, 1, none⟩ = some (.int .i64 M) := (by rw [hb.cell (p := ⟨w.heap.size + 1, 1, none⟩) (by simp <;> omega), World.cell?_alloc_lt _ _ _ (by simp <;> omega), World.cell?_alloc_lt _ _ _ (by simp <;> omega), World.cell?_alloc_lt _ _ _ (by simp <;> omega)]; exact q3); have HB4 : Hid (Below w.heap.size w w4) := (((HB.out.alloc (by omega) _).alloc (by simp <;> omega) _).alloc (by simp <;> omega) _).trans (hb.mono (by simp <;> omega)); clear hb)
        | (go_at_call 86; refine (meets_one A n _ hA _ 1 (by simp [go_sem])).mono ?_; rw [HR.out]; rintro e w1 ⟨rfl, hb⟩
           have q0 : w1.cell? ⟨w.heap.size, 0, none⟩ = some (.int .u32 (A : Int)) := (by rw [hb.cell (p := ⟨w.heap.size, 0, none⟩) (by simp <;> omega)]; simp [go_sem])
           have q1 : w1.cell? ⟨w.heap.size, 1, none⟩ = some (.int .i64 (n : Int)) := (by rw [hb.cell (p := ⟨w.heap.size, 1, none⟩) (by simp <;> omega)]; simp [go_sem])
           have q2 : w1.cell? ⟨w.heap.size + 1, 0, none⟩ = some (.int .u32 (B : Int)) := (by rw [hb.cell (p := ⟨w.heap.size + 1, 0, none⟩) (by simp <;> omega)]; simp [go_sem])
           have q3 : w1.cell? ⟨w.heap.size + 1, 1, none⟩ = some (.int .i64 M) := (by rw [hb.cell (p := ⟨w.heap.size + 1, 1, none⟩) (by simp <;> omega)]; simp [go_sem])
           have hz0 : w.heap.size < w1.heap.size := (by have := hb.size; simp at this; omega)
           have hz1 : w.heap.size + 1 < w1.heap.size := (by have := hb.size; simp at this; omega)
           have HB : Hid (Below w.heap.size w w1) := ((((Below.refl _ _).alloc (Nat.le_refl _) _).alloc (by simp) _).alloc (by simp <;> omega) _).drew.trans (hb.mono (by simp <;> omega))
           clear hb)
        | (go_at_call 88; refine (atLeast_any n _).mono ?_; rintro e w2 ⟨rfl, rfl⟩)
        | (go_at_call 89; refine (begins_any A n _).mono ?_; rintro e w3 ⟨rfl, rfl⟩)))
  go_wp2
  go_ret
  exact ⟨rfl, HB4.out⟩
end Go.Proofs.YthigjonagbfbbaaDoor
/- The program's Covers, where the first is not right. -/
namespace Go.Proofs.YthigjonagbfbbaaDoor
open Go.RowKit
set_option maxRecDepth 100000

set_option maxHeartbeats 3200000 in
theorem covers_no (A B : Nat) (L M : Int) (w : World) (hA : A < 4294967296) (h : rightB A L = false) :
    Calls Tryd.prog 74 #[pfx A L, pfx B M] w fun e w' => e = .returned (.bool false) ∧ Below w.heap.size w w' := by
  have HR := hide h
  clear h
  unfold pfx
  go_enter Tryd.func74, Tryd.ntmps74
  go_wp2_with fail
  first
  | (go_region_with ((go_at_call 86; refine (meets_one A L _ hA _ 1 (by simp [go_sem])).mono ?_; rw [HR.out]; rintro e w1 ⟨rfl, hb⟩; have HB : Hid (Below w.heap.size w w1) := ((((Below.refl _ _).alloc (Nat.le_refl _) _).alloc (by simp) _).alloc (by simp <;> omega) _).drew.trans (hb.mono (by simp <;> omega)); clear hb)))
  | fail
  all_goals go_wp2
  all_goals go_ret
  all_goals exact ⟨rfl, HB.out⟩
end Go.Proofs.YthigjonagbfbbaaDoor
