/- The program's rules, one by one; meets. -/
import Derived.Test.YtnfokbpnjhhiiaaPthRd
namespace Go.Proofs.Ytnfokbpnjhhiiaa
open Go.RowKit
set_option maxRecDepth 100000

/-- A segment as a value. -/
def segV (b : Bool) (a : Option Addr) (n c : Nat) : Value := .agg #[.bool b, .slice a n c]
set_option maxHeartbeats 400000 in
theorem shiftOf_any (i : Nat) (w : World) (hi : i < 4) : Calls Try.prog 37 #[.int .i64 (i : Int)] w fun e w' => e = .returned (.int .i64 ((8 * (3 - i) : Nat) : Int)) ∧ w' = w := by
  go_enter Try.func37, Try.ntmps37
  go_wp2
  go_ret
  exact ⟨ret_int (by omega), rfl⟩
set_option maxHeartbeats 400000 in
theorem isSeq_any (b : Bool) (a : Option Addr) (n c : Nat) (w : World) : Calls Try.prog 31 #[segV b a n c] w fun e w' => e = .returned (.bool (!b)) ∧ Below w.heap.size w w' := by
  unfold segV
  go_enter Try.func31, Try.ntmps31
  go_wp2
  go_ret
  exact ⟨rfl, (Below.refl _ _).alloc (Nat.le_refl _) _⟩
set_option maxHeartbeats 400000 in
theorem fromTo1_any (b : Bool) (a : Option Addr) (n c : Nat) (lo hi : Int) (x y : Nat) (w : World) (hx : w.cell? ⟨x, 0, none⟩ = some (.int .i64 lo)) (hy : w.cell? ⟨y, 0, none⟩ = some (.int .i64 hi)) :
    Calls Try.prog 45 #[segV b a n c, .pointer (some ⟨x, 0, none⟩), .pointer (some ⟨y, 0, none⟩)] w fun e w' => e = .returned (.bool (decide (lo ≤ (n : Int) ∧ (n : Int) ≤ hi))) ∧ Below w.heap.size w w' := by
  have zx := World.block_lt_of_cell? w _ hx
  have zy := World.block_lt_of_cell? w _ hy
  simp only at zx zy
  unfold segV
  by_cases h : lo ≤ (n : Int)
  · have HD : Hid (decide (lo ≤ (n : Int) ∧ (n : Int) ≤ hi) = decide ((n : Int) ≤ hi)) := by show decide _ = _; rw [Bool.eq_iff_iff]; simp [h]
    go_enter Try.func45, Try.ntmps45
    go_wp2
    go_ret
    exact ⟨ret_bool HD.out.symm, (Below.refl _ _).alloc (Nat.le_refl _) _⟩
  · have HD : Hid (decide (lo ≤ (n : Int) ∧ (n : Int) ≤ hi) = false) := by show decide _ = _; exact decide_eq_false (fun h9 => h h9.1)
    have h2 : decide (lo ≤ (n : Int)) = false := decide_eq_false h
    clear h
    go_enter Try.func45, Try.ntmps45
    go_wp2
    go_ret
    exact ⟨ret_bool HD.out.symm, (Below.refl _ _).alloc (Nat.le_refl _) _⟩
set_option maxHeartbeats 800000 in
theorem nums1_some (sb : Bool) (b2 o2 n c : Nat) (zs : List Int) (x y : Nat) (w : World) (hn : zs.length = n) (hl : n ≤ 100000) (hx : w.cell? ⟨x, 0, none⟩ = some (.int .i64 1)) (hy : w.cell? ⟨y, 0, none⟩ = some (.int .i64 4294967295)) (hc : ∀ j z, zs[j]? = some z → w.cell? ⟨b2, o2 + j, none⟩ = some (.int .i64 z)) :
    Calls Try.prog 46 #[segV sb (some ⟨b2, o2, none⟩) n c, .pointer (some ⟨x, 0, none⟩), .pointer (some ⟨y, 0, none⟩)] w fun e w' => e = .returned (.bool (zs.all okN)) ∧ Below w.heap.size w w' := by
  have zx := World.block_lt_of_cell? w _ hx
  have zy := World.block_lt_of_cell? w _ hy
  simp only at zx zy
  have HC := hide hc
  have HN := hide hn
  clear hc hn
  unfold segV
  go_enter Try.func46, Try.ntmps46
  go_wp2
  go_loop [10] (fun i => ∃ q : Nat, q ≤ n ∧ i = .int .i64 q ∧ Hid ((zs.take q).all okN = true)) (fun i => n - (intOf i).toNat)
  case atStart => exact ⟨0, Nat.zero_le _, rfl, rfl⟩
  case round =>
    obtain ⟨q, hq, rfl, HQ⟩ := hrel
    by_cases hlq : q < n
    · have hqp : q < zs.length := by rw [HN.out]; exact hlq
      have cz := HC.out q zs[q] (List.getElem?_eq_getElem hqp)
      have zz := World.block_lt_of_cell? w _ cz
      simp only at zz
      have HTQ : Hid ((zs.take (q + 1)).all okN = ((zs.take q).all okN && okN zs[q])) := by show (zs.take (q + 1)).all _ = _; rw [List.take_succ_eq_append_getElem hqp]; simp only [List.all_append, List.all_cons, List.all_nil, Bool.and_true]
      have HZ : Hid (okN zs[q] = false → zs.all okN = false) := fun h => by
        show zs.all okN = false
        rw [Bool.eq_false_iff]
        intro hh
        rw [List.all_eq_true.1 hh _ (List.getElem_mem hqp)] at h
        cases h
      generalize zs[q] = z at *
      have hq0 : (0 : Int) ≤ (q : Int) := Int.natCast_nonneg _
      have hq1 : (q : Int) < (n : Int) := by omega
      by_cases hz1 : z < 1
      · have HG : Hid (zs.all okN = false) := HZ.out (decide_eq_false (by omega))
        go_wp2
        go_ret
        exact ⟨ret_bool HG.out.symm, (Below.refl _ _).alloc (Nat.le_refl _) _⟩
      · by_cases hz2 : 4294967295 < z
        · have HG : Hid (zs.all okN = false) := HZ.out (decide_eq_false (by omega))
          have j1 : decide (z < 1) = false := decide_eq_false hz1
          go_wp2
          go_ret
          exact ⟨ret_bool HG.out.symm, (Below.refl _ _).alloc (Nat.le_refl _) _⟩
        · have j1 : decide (z < 1) = false := decide_eq_false hz1
          have j2 : decide (4294967295 < z) = false := decide_eq_false hz2
          have HQ2 : Hid ((zs.take (q + 1)).all okN = true) := by
            show (zs.take (q + 1)).all okN = true
            rw [HTQ.out, HQ.out, show okN z = true from decide_eq_true (by omega)]; rfl
          clear hz1 hz2
          go_wp2
          exact ⟨⟨q + 1, by omega, by go_num, HQ2⟩, by simp [intOf]; omega⟩
    · go_wp2
      go_ret
      exact ⟨ret_bool (by rw [← HQ.out, List.take_of_length_le (by rw [HN.out]; omega)]), (Below.refl _ _).alloc (Nat.le_refl _) _⟩
set_option maxHeartbeats 400000 in
theorem nums1_none (sb : Bool) (a : Option Addr) (c : Nat) (x y : Nat) (w : World) :
    Calls Try.prog 46 #[segV sb a 0 c, .pointer (some ⟨x, 0, none⟩), .pointer (some ⟨y, 0, none⟩)] w fun e w' => e = .returned (.bool true) ∧ Below w.heap.size w w' := by
  unfold segV
  go_enter Try.func46, Try.ntmps46
  go_wp2
  go_loop [10] (fun i => i = .int .i64 0) (fun i => 0 - (intOf i).toNat)
  case atStart => exact rfl
  case round =>
    obtain rfl := hrel
    go_wp2
    go_ret
    exact ⟨rfl, (Below.refl _ _).alloc (Nat.le_refl _) _⟩
theorem nums1_any (sb : Bool) (a : Option Addr) (c : Nat) (zs : List Int) (x y : Nat) (w : World) (hl : zs.length ≤ 100000) (hx : w.cell? ⟨x, 0, none⟩ = some (.int .i64 1)) (hy : w.cell? ⟨y, 0, none⟩ = some (.int .i64 4294967295)) (hr : IRd w a zs) :
    Calls Try.prog 46 #[segV sb a zs.length c, .pointer (some ⟨x, 0, none⟩), .pointer (some ⟨y, 0, none⟩)] w fun e w' => e = .returned (.bool (zs.all okN)) ∧ Below w.heap.size w w' := by
  cases zs with
  | nil => exact nums1_none sb a c x y w
  | cons z r =>
    obtain ⟨b2, o2, rfl, hc⟩ := hr (by simp)
    exact nums1_some sb b2 o2 _ c _ x y w rfl hl hx hy hc
set_option maxHeartbeats 800000 in
theorem tog1_any (sb : Bool) (a : Option Addr) (n c k C M : Nat) (w : World) (hn : n ≤ 100000) (hk : k ≤ 100000) (hC : w.cell? ⟨C, 0, none⟩ = some (.int .i64 (k : Int))) (hz : w.frozen? ⟨C, 0, none⟩ = false) (hM : w.cell? ⟨M, 0, none⟩ = some (.int .i64 64)) (hne : M ≠ C) :
    Calls Try.prog 47 #[segV sb a n c, .pointer (some ⟨C, 0, none⟩), .pointer (some ⟨M, 0, none⟩)] w fun e w' => e = .returned (.bool (decide (k + n ≤ 64))) ∧ Keeps (fun b => b = C) w w' ∧ w'.cell? ⟨C, 0, none⟩ = some (.int .i64 ((k + n : Nat) : Int)) ∧ w'.frozen? ⟨C, 0, none⟩ = false := by
  have zC := World.block_lt_of_cell? w _ hC
  have zM := World.block_lt_of_cell? w _ hM
  simp only at zC zM
  unfold segV
  go_enter Try.func47, Try.ntmps47
  go_wp2
  go_ret
  refine ⟨ret_bool (by rw [Bool.eq_iff_iff]; simp; omega), ((Keeps.refl (fun b => b = C) w).setCell C _ _ (.inl rfl)).alloc _, ?_, ?_⟩
  · rw [World.cell?_alloc_lt _ _ _ (by simpa using zC), World.cell?_setCell_same _ _ _ hC]; simp
  · simp [go_sem, zC, hz]
/-- Do the first n hold? -/
def allUp (rb : Nat → Bool) : Nat → Bool
  | 0 => true
  | n + 1 => allUp rb n && rb n
theorem allUp_false (rb : Nat → Bool) (k : Nat) (h : rb k = false) : ∀ n, k < n → allUp rb n = false
  | 0, hk => absurd hk (by omega)
  | n + 1, hk => by
    by_cases e : k = n
    · subst e; simp [allUp, h]
    · simp [allUp, allUp_false rb k h n (by omega)]
set_option maxHeartbeats 800000 in
theorem meets_inv (b o n c : Nat) (sb : Bool) (sa : Option Addr) (sn sc : Nat) (fs : Nat → Nat) (caps : Nat → Array Value) (rb : Nat → Bool) (Inv : Nat → World → Prop) (F : Nat → Prop) (w : World) (hn : n ≤ 3)
    (hF : ∀ k, F k → k < w.heap.size) (hb : ¬ F b)
    (hcell : ∀ i, i < n → w.cell? ⟨b, o + i, none⟩ = some (.func (.func (fs i)) #[] (caps i)))
    (hent : ∀ i, i < n → ∀ args w, (callFunc (fs i) args).run Try.prog w = .ok (.enter (fs i) args) w)
    (hst : ∀ k w1 w2, Inv k w1 → Below w1.heap.size w1 w2 → Inv k w2) (h0 : Inv 0 w)
    (hcall : ∀ i, i < n → ∀ w1, Keeps F w w1 → Inv i w1 → Calls Try.prog (fs i) (#[segV sb sa sn sc] ++ caps i) w1 fun e w2 => e = .returned (.bool (rb i)) ∧ Keeps F w1 w2 ∧ Inv (i + 1) w2) :
    Calls Try.prog 34 #[segV sb sa sn sc, .slice (some ⟨b, o, none⟩) n c] w fun e w' => e = .returned (.bool (allUp rb n)) ∧ Keeps F w w' ∧ (allUp rb n = true → Inv n w') := by
  have HC := hide hcell
  have HE := hide hent
  have HK := hide hcall
  have HFF := hide hF
  have HI0 := hide (hst 0 w (w.alloc (.cells #[.bool sb, .slice sa sn sc] 38)) h0 ((Below.refl _ _).alloc (Nat.le_refl _) _))
  clear hcell hcall hent hF hst h0
  unfold segV
  go_enter Try.func34, Try.ntmps34
  go_wp2
  go_loopw [9] (fun i wq => ∃ k : Nat, k ≤ n ∧ i = .int .i64 k ∧ Hid (allUp rb k = true) ∧ Hid (Keeps F w wq) ∧ Hid (Inv k wq) ∧ w.heap.size < wq.heap.size ∧ wq.cell? ⟨w.heap.size, 0, none⟩ = some (.bool sb) ∧ wq.cell? ⟨w.heap.size, 1, none⟩ = some (.slice sa sn sc)) (fun i _ => n - (intOf i).toNat)
  case atStart => exact ⟨0, Nat.zero_le _, rfl, rfl, (Keeps.refl _ _).alloc _, HI0, by simp, by simp [go_sem], by simp [go_sem]⟩
  case round =>
    obtain ⟨k, hk, rfl, HA, HB, HI, hz, c0, c1⟩ := hrel
    by_cases hlt : k < n
    · have ck : wr.cell? ⟨b, o + k, none⟩ = some (.func (.func (fs k)) #[] (caps k)) := by
        rw [HB.out.cell _ (World.block_lt_of_cell? w _ (HC.out k hlt)) hb]
        exact HC.out k hlt
      have ek := HE.out k hlt
      have hk0 : (0 : Int) ≤ (k : Int) := Int.natCast_nonneg _
      have hk1 : (k : Int) < (n : Int) := by omega
      go_wp2_with fail
      refine (HK.out k hlt wr HB.out HI.out).mono ?_
      rintro e w2 ⟨rfl, hb2, hi2⟩
      have hnF : ¬ F w.heap.size := fun h => absurd (HFF.out _ h) (by omega)
      have d0 : w2.cell? ⟨w.heap.size, 0, none⟩ = some (.bool sb) := by rw [hb2.cell ⟨w.heap.size, 0, none⟩ hz hnF]; exact c0
      have d1 : w2.cell? ⟨w.heap.size, 1, none⟩ = some (.slice sa sn sc) := by rw [hb2.cell ⟨w.heap.size, 1, none⟩ hz hnF]; exact c1
      have HB2 : Hid (Keeps F w w2) := HB.out.trans hb2 (fun _ _ h => h)
      have HI2 := hide hi2
      have hz2 : w.heap.size < w2.heap.size := Nat.lt_of_lt_of_le hz hb2.size
      clear hb2 c0 c1 ck ek hi2
      cases hr : rb k with
      | true =>
        have HR := hide hr
        clear hr
        go_wp2
        exact ⟨⟨k + 1, by omega, by go_num, show allUp rb (k + 1) = true by simp [allUp, HA.out, HR.out], HB2, HI2, hz2, d0, d1⟩, by simp [intOf]; omega⟩
      | false =>
        have HR := hide hr
        clear hr
        go_wp2
        go_ret
        have hfa := allUp_false rb k HR.out n hlt
        exact ⟨ret_bool hfa.symm, HB2.out, fun h => by rw [hfa] at h; cases h⟩
    · have hkn : k = n := by omega
      subst hkn
      go_wp2
      go_ret
      exact ⟨ret_bool HA.out.symm, HB.out, fun _ => HI.out⟩
end Go.Proofs.Ytnfokbpnjhhiiaa
