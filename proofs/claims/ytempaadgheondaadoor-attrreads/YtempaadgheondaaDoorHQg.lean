/- The program's rules, one by one; meets. -/
import Derived.Test.YtempaadgheondaaDoorHPth
namespace Go.Proofs.YtempaadgheondaaDoor
open Go.RowKit
set_option maxRecDepth 100000

/-- A segment as a value. -/
def segV (b : Bool) (a : Option Addr) (n c : Nat) : Value := .agg #[.bool b, .slice a n c]
set_option maxHeartbeats 400000 in
theorem shiftOf_any (i : Nat) (w : World) (hi : i < 4) : Calls Tryd.prog 86 #[.int .i64 (i : Int)] w fun e w' => e = .returned (.int .i64 ((8 * (3 - i) : Nat) : Int)) ∧ w' = w := by
  go_enter Tryd.func86, Tryd.ntmps86
  go_wp2
  go_ret
  exact ⟨ret_int (by omega), rfl⟩
set_option maxHeartbeats 400000 in
theorem fromTo1_any (b : Bool) (a : Option Addr) (n c : Nat) (lo hi : Int) (x y : Nat) (w : World) (hx : w.cell? ⟨x, 0, none⟩ = some (.int .i64 lo)) (hy : w.cell? ⟨y, 0, none⟩ = some (.int .i64 hi)) :
    Calls Tryd.prog 92 #[segV b a n c, .pointer (some ⟨x, 0, none⟩), .pointer (some ⟨y, 0, none⟩)] w fun e w' => e = .returned (.bool (decide (lo ≤ (n : Int) ∧ (n : Int) ≤ hi))) ∧ Below w.heap.size w w' := by
  have zx := World.block_lt_of_cell? w _ hx
  have zy := World.block_lt_of_cell? w _ hy
  simp only at zx zy
  unfold segV
  by_cases h : lo ≤ (n : Int)
  · have HD : Hid (decide (lo ≤ (n : Int) ∧ (n : Int) ≤ hi) = decide ((n : Int) ≤ hi)) := by show decide _ = _; rw [Bool.eq_iff_iff]; simp [h]
    go_enter Tryd.func92, Tryd.ntmps92
    go_wp2
    go_ret
    exact ⟨ret_bool HD.out.symm, (Below.refl _ _).alloc (Nat.le_refl _) _⟩
  · have HD : Hid (decide (lo ≤ (n : Int) ∧ (n : Int) ≤ hi) = false) := by show decide _ = _; exact decide_eq_false (fun h9 => h h9.1)
    have h2 : decide (lo ≤ (n : Int)) = false := decide_eq_false h
    clear h
    go_enter Tryd.func92, Tryd.ntmps92
    go_wp2
    go_ret
    exact ⟨ret_bool HD.out.symm, (Below.refl _ _).alloc (Nat.le_refl _) _⟩
set_option maxHeartbeats 800000 in
theorem nums1_some (sb : Bool) (b2 o2 n c : Nat) (zs : List Int) (x y : Nat) (w : World) (hn : zs.length = n) (hl : n ≤ 100000) (hx : w.cell? ⟨x, 0, none⟩ = some (.int .i64 1)) (hy : w.cell? ⟨y, 0, none⟩ = some (.int .i64 4294967295)) (hc : ∀ j z, zs[j]? = some z → w.cell? ⟨b2, o2 + j, none⟩ = some (.int .i64 z)) :
    Calls Tryd.prog 93 #[segV sb (some ⟨b2, o2, none⟩) n c, .pointer (some ⟨x, 0, none⟩), .pointer (some ⟨y, 0, none⟩)] w fun e w' => e = .returned (.bool (zs.all okN)) ∧ Below w.heap.size w w' := by
  have zx := World.block_lt_of_cell? w _ hx
  have zy := World.block_lt_of_cell? w _ hy
  simp only at zx zy
  have HC := hide hc
  have HN := hide hn
  clear hc hn
  unfold segV
  go_enter Tryd.func93, Tryd.ntmps93
  go_wp2
  go_loop [10] (fun i => ∃ q : Nat, q ≤ n ∧ i = .int .i64 q ∧ Hid ((zs.take q).all okN = true)) (fun i => n - (intOf i).toNat)
  case atStart => exact ⟨0, Nat.zero_le _, rfl, rfl⟩
  case round =>
    obtain ⟨q, hq, rfl, HQ⟩ := hrel
    by_cases hlq : q < n
    · have hqp : q < zs.length := by rw [HN.out]; exact hlq
      have cz := HC.out q zs[q] (List.getElem?_eq_getElem hqp)
      have zz := World.block_lt_of_cell? w _ cz
      simp only at zz
      have HTQ : Hid ((zs.take (q + 1)).all okN = ((zs.take q).all okN && okN zs[q])) := by show (zs.take (q + 1)).all _ = _; rw [List.take_succ_eq_append_getElem hqp]; simp only [List.all_append, List.all_cons, List.all_nil, Bool.and_true]
      have HZ : Hid (okN zs[q] = false → zs.all okN = false) := fun h => by
        show zs.all okN = false
        rw [Bool.eq_false_iff]
        intro hh
        rw [List.all_eq_true.1 hh _ (List.getElem_mem hqp)] at h
        cases h
      generalize zs[q] = z at *
      have hq0 : (0 : Int) ≤ (q : Int) := Int.natCast_nonneg _
      have hq1 : (q : Int) < (n : Int) := by omega
      by_cases hz1 : z < 1
      · have HG : Hid (zs.all okN = false) := HZ.out (decide_eq_false (by omega))
        go_wp2
        go_ret
        exact ⟨ret_bool HG.out.symm, (Below.refl _ _).alloc (Nat.le_refl _) _⟩
      · by_cases hz2 : 4294967295 < z
        · have HG : Hid (zs.all okN = false) := HZ.out (decide_eq_false (by omega))
          have j1 : decide (z < 1) = false := decide_eq_false hz1
          go_wp2
          go_ret
          exact ⟨ret_bool HG.out.symm, (Below.refl _ _).alloc (Nat.le_refl _) _⟩
        · have j1 : decide (z < 1) = false := decide_eq_false hz1
          have j2 : decide (4294967295 < z) = false := decide_eq_false hz2
          have HQ2 : Hid ((zs.take (q + 1)).all okN = true) := by
            show (zs.take (q + 1)).all okN = true
            rw [HTQ.out, HQ.out, show okN z = true from decide_eq_true (by omega)]; rfl
          clear hz1 hz2
          go_wp2
          exact ⟨⟨q + 1, by omega, by go_num, HQ2⟩, by simp [intOf]; omega⟩
    · go_wp2
      go_ret
      exact ⟨ret_bool (by rw [← HQ.out, List.take_of_length_le (by rw [HN.out]; omega)]), (Below.refl _ _).alloc (Nat.le_refl _) _⟩
set_option maxHeartbeats 400000 in
theorem nums1_none (sb : Bool) (a : Option Addr) (c : Nat) (x y : Nat) (w : World) :
    Calls Tryd.prog 93 #[segV sb a 0 c, .pointer (some ⟨x, 0, none⟩), .pointer (some ⟨y, 0, none⟩)] w fun e w' => e = .returned (.bool true) ∧ Below w.heap.size w w' := by
  unfold segV
  go_enter Tryd.func93, Tryd.ntmps93
  go_wp2
  go_loop [10] (fun i => i = .int .i64 0) (fun i => 0 - (intOf i).toNat)
  case atStart => exact rfl
  case round =>
    obtain rfl := hrel
    go_wp2
    go_ret
    exact ⟨rfl, (Below.refl _ _).alloc (Nat.le_refl _) _⟩
theorem nums1_any (sb : Bool) (a : Option Addr) (c : Nat) (zs : List Int) (x y : Nat) (w : World) (hl : zs.length ≤ 100000) (hx : w.cell? ⟨x, 0, none⟩ = some (.int .i64 1)) (hy : w.cell? ⟨y, 0, none⟩ = some (.int .i64 4294967295)) (hr : IRd w a zs) :
    Calls Tryd.prog 93 #[segV sb a zs.length c, .pointer (some ⟨x, 0, none⟩), .pointer (some ⟨y, 0, none⟩)] w fun e w' => e = .returned (.bool (zs.all okN)) ∧ Below w.heap.size w w' := by
  cases zs with
  | nil => exact nums1_none sb a c x y w
  | cons z r =>
    obtain ⟨b2, o2, rfl, hc⟩ := hr (by simp)
    exact nums1_some sb b2 o2 _ c _ x y w rfl hl hx hy hc
set_option maxHeartbeats 800000 in
theorem tog1_any (sb : Bool) (a : Option Addr) (n c k C M : Nat) (w : World) (hn : n ≤ 100000) (hk : k ≤ 100000) (hC : w.cell? ⟨C, 0, none⟩ = some (.int .i64 (k : Int))) (hz : w.frozen? ⟨C, 0, none⟩ = false) (hM : w.cell? ⟨M, 0, none⟩ = some (.int .i64 64)) (hne : M ≠ C) :
    Calls Tryd.prog 94 #[segV sb a n c, .pointer (some ⟨C, 0, none⟩), .pointer (some ⟨M, 0, none⟩)] w fun e w' => e = .returned (.bool (decide (k + n ≤ 64))) ∧ Keeps (fun b => b = C) w w' ∧ w'.cell? ⟨C, 0, none⟩ = some (.int .i64 ((k + n : Nat) : Int)) ∧ w'.frozen? ⟨C, 0, none⟩ = false := by
  have zC := World.block_lt_of_cell? w _ hC
  have zM := World.block_lt_of_cell? w _ hM
  simp only at zC zM
  unfold segV
  go_enter Tryd.func94, Tryd.ntmps94
  go_wp2
  go_ret
  refine ⟨ret_bool (by rw [Bool.eq_iff_iff]; simp; omega), ((Keeps.refl (fun b => b = C) w).setCell C _ _ (.inl rfl)).alloc _, ?_, ?_⟩
  · rw [World.cell?_alloc_lt _ _ _ (by simpa using zC), World.cell?_setCell_same _ _ _ hC]; simp
  · simp [go_sem, zC, hz]
/-- Do the first n hold? -/
def allUp (rb : Nat → Bool) : Nat → Bool
  | 0 => true
  | n + 1 => allUp rb n && rb n
theorem allUp_false (rb : Nat → Bool) (k : Nat) (h : rb k = false) : ∀ n, k < n → allUp rb n = false
  | 0, hk => absurd hk (by omega)
  | n + 1, hk => by
    by_cases e : k = n
    · subst e; simp [allUp, h]
    · simp [allUp, allUp_false rb k h n (by omega)]
set_option maxHeartbeats 800000 in
theorem meets_inv (b o n c : Nat) (sb : Bool) (sa : Option Addr) (sn sc : Nat) (fs : Nat → Nat) (caps : Nat → Array Value) (rb : Nat → Bool) (Inv : Nat → World → Prop) (F : Nat → Prop) (w : World) (hn : n ≤ 3)
    (hF : ∀ k, F k → k < w.heap.size) (hb : ¬ F b)
    (hcell : ∀ i, i < n → w.cell? ⟨b, o + i, none⟩ = some (.func (.func (fs i)) #[] (caps i)))
    (hent : ∀ i, i < n → ∀ args w, (callFunc (fs i) args).run Tryd.prog w = .ok (.enter (fs i) args) w)
    (hst : ∀ k w1 w2, Inv k w1 → Below w1.heap.size w1 w2 → Inv k w2) (h0 : Inv 0 w)
    (hcall : ∀ i, i < n → ∀ w1, Keeps F w w1 → Inv i w1 → Calls Tryd.prog (fs i) (#[segV sb sa sn sc] ++ caps i) w1 fun e w2 => e = .returned (.bool (rb i)) ∧ Keeps F w1 w2 ∧ Inv (i + 1) w2) :
    Calls Tryd.prog 84 #[segV sb sa sn sc, .slice (some ⟨b, o, none⟩) n c] w fun e w' => e = .returned (.bool (allUp rb n)) ∧ Keeps F w w' ∧ (allUp rb n = true → Inv n w') := by
  have HC := hide hcell
  have HE := hide hent
  have HK := hide hcall
  have HFF := hide hF
  have HI0 := hide (hst 0 w (w.alloc (.cells #[.bool sb, .slice sa sn sc] 46)) h0 ((Below.refl _ _).alloc (Nat.le_refl _) _))
  clear hcell hcall hent hF hst h0
  unfold segV
  go_enter Tryd.func84, Tryd.ntmps84
  go_wp2
  go_loopw [9] (fun i wq => ∃ k : Nat, k ≤ n ∧ i = .int .i64 k ∧ Hid (allUp rb k = true) ∧ Hid (Keeps F w wq) ∧ Hid (Inv k wq) ∧ w.heap.size < wq.heap.size ∧ wq.cell? ⟨w.heap.size, 0, none⟩ = some (.bool sb) ∧ wq.cell? ⟨w.heap.size, 1, none⟩ = some (.slice sa sn sc)) (fun i _ => n - (intOf i).toNat)
  case atStart => exact ⟨0, Nat.zero_le _, rfl, rfl, (Keeps.refl _ _).alloc _, HI0, by simp, by simp [go_sem], by simp [go_sem]⟩
  case round =>
    obtain ⟨k, hk, rfl, HA, HB, HI, hz, c0, c1⟩ := hrel
    by_cases hlt : k < n
    · have ck : wr.cell? ⟨b, o + k, none⟩ = some (.func (.func (fs k)) #[] (caps k)) := by
        rw [HB.out.cell _ (World.block_lt_of_cell? w _ (HC.out k hlt)) hb]
        exact HC.out k hlt
      have ek := HE.out k hlt
      have hk0 : (0 : Int) ≤ (k : Int) := Int.natCast_nonneg _
      have hk1 : (k : Int) < (n : Int) := by omega
      go_wp2_with fail
      refine (HK.out k hlt wr HB.out HI.out).mono ?_
      rintro e w2 ⟨rfl, hb2, hi2⟩
      have hnF : ¬ F w.heap.size := fun h => absurd (HFF.out _ h) (by omega)
      have d0 : w2.cell? ⟨w.heap.size, 0, none⟩ = some (.bool sb) := by rw [hb2.cell ⟨w.heap.size, 0, none⟩ hz hnF]; exact c0
      have d1 : w2.cell? ⟨w.heap.size, 1, none⟩ = some (.slice sa sn sc) := by rw [hb2.cell ⟨w.heap.size, 1, none⟩ hz hnF]; exact c1
      have HB2 : Hid (Keeps F w w2) := HB.out.trans hb2 (fun _ _ h => h)
      have HI2 := hide hi2
      have hz2 : w.heap.size < w2.heap.size := Nat.lt_of_lt_of_le hz hb2.size
      clear hb2 c0 c1 ck ek hi2
      cases hr : rb k with
      | true =>
        have HR := hide hr
        clear hr
        go_wp2
        exact ⟨⟨k + 1, by omega, by go_num, show allUp rb (k + 1) = true by simp [allUp, HA.out, HR.out], HB2, HI2, hz2, d0, d1⟩, by simp [intOf]; omega⟩
      | false =>
        have HR := hide hr
        clear hr
        go_wp2
        go_ret
        have hfa := allUp_false rb k HR.out n hlt
        exact ⟨ret_bool hfa.symm, HB2.out, fun h => by rw [hfa] at h; cases h⟩
    · have hkn : k = n := by omega
      subst hkn
      go_wp2
      go_ret
      exact ⟨ret_bool HA.out.symm, HB.out, fun _ => HI.out⟩
end Go.Proofs.YtempaadgheondaaDoor
/- The rule of good paths, segment by segment; the program's Good. -/
namespace Go.Proofs.YtempaadgheondaaDoor
open Go.RowKit
set_option maxRecDepth 100000

/-- The rules of a good path, laid from block B on, x numbers having been seen. -/
structure Chk (w : World) (B x : Nat) : Prop where
  l1 : w.cell? ⟨B, 0, none⟩ = some (.int .i64 1)
  m1 : w.cell? ⟨B + 1, 0, none⟩ = some (.int .i64 255)
  l2 : w.cell? ⟨B + 2, 0, none⟩ = some (.int .i64 1)
  m2 : w.cell? ⟨B + 3, 0, none⟩ = some (.int .i64 4294967295)
  m3 : w.cell? ⟨B + 4, 0, none⟩ = some (.int .i64 64)
  ct : w.cell? ⟨B + 5, 0, none⟩ = some (.int .i64 (x : Int))
  fz : w.frozen? ⟨B + 5, 0, none⟩ = false
  f1 : w.cell? ⟨B + 6, 0, none⟩ = some (.func (.func 92) #[] #[.pointer (some ⟨B, 0, none⟩), .pointer (some ⟨B + 1, 0, none⟩)])
  f2 : w.cell? ⟨B + 7, 0, none⟩ = some (.func (.func 93) #[] #[.pointer (some ⟨B + 2, 0, none⟩), .pointer (some ⟨B + 3, 0, none⟩)])
  f3 : w.cell? ⟨B + 8, 0, none⟩ = some (.func (.func 94) #[] #[.pointer (some ⟨B + 5, 0, none⟩), .pointer (some ⟨B + 4, 0, none⟩)])
theorem Chk.size {w : World} {B x : Nat} (h : Chk w B x) : B + 8 < w.heap.size := by
  have := World.block_lt_of_cell? w _ h.f3
  simpa using this
theorem Chk.keeps {w w' : World} {B x : Nat} {F : Nat → Prop} (h : Chk w B x) (hk : Keeps F w w') (hF : ∀ k, F k → k = B + 5) (x' : Nat) (hc : w'.cell? ⟨B + 5, 0, none⟩ = some (.int .i64 (x' : Int))) (hz : w'.frozen? ⟨B + 5, 0, none⟩ = false) : Chk w' B x' := by
  have hs := h.size
  have key : ∀ k, k ≤ 8 → k ≠ 5 → w'.cell? ⟨B + k, 0, none⟩ = w.cell? ⟨B + k, 0, none⟩ := fun k hk8 hne => hk.cell ⟨B + k, 0, none⟩ (by show B + k < _; omega) (fun h9 => by have := hF _ h9; simp only at this; omega)
  exact ⟨by rw [← h.l1]; exact key 0 (by omega) (by omega), by rw [← h.m1]; exact key 1 (by omega) (by omega), by rw [← h.l2]; exact key 2 (by omega) (by omega), by rw [← h.m2]; exact key 3 (by omega) (by omega), by rw [← h.m3]; exact key 4 (by omega) (by omega), hc, hz,
    by rw [← h.f1]; exact key 6 (by omega) (by omega), by rw [← h.f2]; exact key 7 (by omega) (by omega), by rw [← h.f3]; exact key 8 (by omega) (by omega)⟩
theorem Chk.later {w w' : World} {B x : Nat} (h : Chk w B x) (hb : Below w.heap.size w w') : Chk w' B x :=
  h.keeps (Keeps.of_below hb (fun _ => False)) (fun _ h => h.elim) x (by rw [hb.cell (p := ⟨B + 5, 0, none⟩) (by have := h.size; show B + 5 < _; omega)]; exact h.ct) (by rw [hb.frozen (p := ⟨B + 5, 0, none⟩) (by have := h.size; show B + 5 < _; omega)]; exact h.fz)
set_option maxHeartbeats 400000 in
theorem fromTo_any (lo hi : Int) (w : World) : Calls Tryd.prog 80 #[.int .i64 lo, .int .i64 hi] w fun e w' => e = .returned (.func (.func 92) #[] #[.pointer (some ⟨w.heap.size, 0, none⟩), .pointer (some ⟨w.heap.size + 1, 0, none⟩)]) ∧ w' = (w.alloc (.cells #[.int .i64 lo] 3)).alloc (.cells #[.int .i64 hi] 3) := by
  go_enter Tryd.func80, Tryd.ntmps80
  go_wp2
  go_ret
  exact ⟨rfl, rfl⟩
set_option maxHeartbeats 400000 in
theorem numsFT_any (lo hi : Int) (w : World) : Calls Tryd.prog 81 #[.int .i64 lo, .int .i64 hi] w fun e w' => e = .returned (.func (.func 93) #[] #[.pointer (some ⟨w.heap.size, 0, none⟩), .pointer (some ⟨w.heap.size + 1, 0, none⟩)]) ∧ w' = (w.alloc (.cells #[.int .i64 lo] 3)).alloc (.cells #[.int .i64 hi] 3) := by
  go_enter Tryd.func81, Tryd.ntmps81
  go_wp2
  go_ret
  exact ⟨rfl, rfl⟩
set_option maxHeartbeats 400000 in
theorem tog_any (m : Int) (w : World) : Calls Tryd.prog 82 #[.int .i64 m] w fun e w' => e = .returned (.func (.func 94) #[] #[.pointer (some ⟨w.heap.size + 1, 0, none⟩), .pointer (some ⟨w.heap.size, 0, none⟩)]) ∧ w' = (w.alloc (.cells #[.int .i64 m] 3)).alloc (.cells #[.int .i64 0] 3) := by
  go_enter Tryd.func82, Tryd.ntmps82
  go_wp2
  go_ret
  exact ⟨rfl, rfl⟩
theorem run_store_func (P : Program) (w : World) (a : Addr) (m : Mode) (f : Fn) (ts : Array Value) (cs : Array Value) : (store a (.func f ts cs) m).run P w = stored P w a (.func f ts cs) m := run_store P w a _ m rfl
attribute [local go_sem] run_store_func
/-- The rule itself. -/
def chkV (B : Nat) : Value := .func (.func 83) #[] #[.pointer (some ⟨B + 6, 0, none⟩), .pointer (some ⟨B + 7, 0, none⟩), .pointer (some ⟨B + 8, 0, none⟩)]
theorem cell_new (w : World) (c : Array Value) (t : TypeId) (B i : Nat) (h : B = w.heap.size) : (w.alloc (.cells c t)).cell? ⟨B, i, none⟩ = c[i]? := by subst h; exact World.cell?_alloc_mark w c t _ i
theorem cell_old (w : World) (o : Obj) (B i : Nat) (h : B < w.heap.size) : (w.alloc o).cell? ⟨B, i, none⟩ = w.cell? ⟨B, i, none⟩ := World.cell?_alloc_lt _ _ _ h
/-- The world that holds all rules. -/
def chkW (w : World) : World := ((((((((w.alloc (.cells #[.int .i64 1] 3)).alloc (.cells #[.int .i64 255] 3)).alloc (.cells #[.int .i64 1] 3)).alloc (.cells #[.int .i64 4294967295] 3)).alloc (.cells #[.int .i64 64] 3)).alloc (.cells #[.int .i64 0] 3)).alloc (.cells #[.func (.func 92) #[] #[.pointer (some ⟨w.heap.size, 0, none⟩), .pointer (some ⟨w.heap.size + 1, 0, none⟩)]] 84)).alloc (.cells #[.func (.func 93) #[] #[.pointer (some ⟨w.heap.size + 2, 0, none⟩), .pointer (some ⟨w.heap.size + 3, 0, none⟩)]] 84)).alloc (.cells #[.func (.func 94) #[] #[.pointer (some ⟨w.heap.size + 5, 0, none⟩), .pointer (some ⟨w.heap.size + 4, 0, none⟩)]] 84)
theorem chk_made (w : World) : Chk (chkW w) w.heap.size 0 ∧ Below w.heap.size w (chkW w) := by
  unfold chkW
  refine ⟨⟨?_, ?_, ?_, ?_, ?_, ?_, ?_, ?_, ?_, ?_⟩, ?_⟩
  case refine_11 => exact (((((((((Below.refl _ _).alloc (Nat.le_refl _) _).alloc (by simp) _).alloc (by simp; omega) _).alloc (by simp; omega) _).alloc (by simp; omega) _).alloc (by simp; omega) _).alloc (by simp; omega) _).alloc (by simp; omega) _).alloc (by simp; omega) _
  case refine_7 =>
    repeat rw [World.frozen?_alloc_past _ _ _ (by simp only [World.size_alloc]; omega)]
    rw [World.frozen?_alloc_at _ _ _ _ (by simp only [World.size_alloc])]
  all_goals (repeat rw [cell_old _ _ _ _ (by simp only [World.size_alloc]; omega)])
  all_goals (rw [cell_new _ _ _ _ _ (by first | rfl | (simp only [World.size_alloc]; done) | (simp only [World.size_alloc]; omega))]; rfl)
set_option maxHeartbeats 1600000 in
theorem gob_any (w : World) : Calls Tryd.prog 54 #[] w fun e w' => e = .returned (chkV w.heap.size) ∧ Chk w' w.heap.size 0 ∧ Below w.heap.size w w' := by
  go_enter Tryd.func54, Tryd.ntmps54
  go_wp2_with fail
  refine (fromTo_any 1 255 _).mono ?_
  rintro e w1 ⟨rfl, rfl⟩
  go_wp2_with fail
  refine (numsFT_any 1 4294967295 _).mono ?_
  rintro e w1 ⟨rfl, rfl⟩
  go_wp2_with fail
  refine (tog_any 64 _).mono ?_
  rintro e w1 ⟨rfl, rfl⟩
  obtain ⟨w3, hw3⟩ : ∃ w3, w3 = ((((((w.alloc (.cells #[.int .i64 1] 3)).alloc (.cells #[.int .i64 255] 3)).alloc (.cells #[.int .i64 1] 3)).alloc (.cells #[.int .i64 4294967295] 3)).alloc (.cells #[.int .i64 64] 3)).alloc (.cells #[.int .i64 0] 3)) := ⟨_, rfl⟩
  rw [← hw3]
  have HS3 : Hid (w3.heap.size = w.heap.size + 6) := by show w3.heap.size = _; rw [hw3]; simp
  have HW := hide hw3
  clear hw3
  go_wp2
  go_ret
  have h9 := chk_made w
  unfold chkW at h9
  rw [← HW.out] at h9
  exact ⟨by unfold chkV; rw [← show w3.heap.size = w.heap.size + 6 from HS3.out, show w.heap.size + 7 = w3.heap.size + 1 from by have := HS3.out; omega, show w.heap.size + 8 = w3.heap.size + 1 + 1 from by have := HS3.out; omega]; rfl, h9⟩
theorem okS_two (b : Bool) (zs : List Int) : okS (b, zs) = (decide ((1 : Int) ≤ (zs.length : Int) ∧ (zs.length : Int) ≤ 255) && zs.all okN) := by
  unfold okS
  congr 1
  rw [Bool.eq_iff_iff]
  simp only [decide_eq_true_eq]
  omega
set_option maxHeartbeats 800000 in
theorem check_any (sb : Bool) (a : Option Addr) (c : Nat) (zs : List Int) (B x : Nat) (w : World) (hl : zs.length ≤ 100000) (hx : x ≤ 100000) (h : Chk w B x) (hr : IRd w a zs) :
    Calls Tryd.prog 83 #[segV sb a zs.length c, .pointer (some ⟨B + 6, 0, none⟩), .pointer (some ⟨B + 7, 0, none⟩), .pointer (some ⟨B + 8, 0, none⟩)] w fun e w' =>
      e = .returned (.bool (okS (sb, zs) && decide (x + zs.length ≤ 64))) ∧ Keeps (fun b => b = B + 5) w w' ∧ ((okS (sb, zs) && decide (x + zs.length ≤ 64)) = true → Chk w' B (x + zs.length)) := by
  have hs := h.size
  have g1 := h.f1
  have g2 := h.f2
  have g3 := h.f3
  have HH := hide h
  have HR := hide hr
  clear h hr
  have HO := hide (okS_two sb zs)
  have hb7 : B + 7 < w.heap.size := by omega
  have hb6 : B + 6 < w.heap.size := by omega
  have key : ∀ w1 : World, Below w.heap.size w w1 → ∀ b' : Nat, w.heap.size ≤ b' → (∀ i, i < 3 → w1.cell? ⟨b', 0 + i, none⟩ = some (.func (.func (if i = 0 then 92 else if i = 1 then 93 else 94)) #[] (if i = 0 then #[.pointer (some ⟨B, 0, none⟩), .pointer (some ⟨B + 1, 0, none⟩)] else if i = 1 then #[.pointer (some ⟨B + 2, 0, none⟩), .pointer (some ⟨B + 3, 0, none⟩)] else #[.pointer (some ⟨B + 5, 0, none⟩), .pointer (some ⟨B + 4, 0, none⟩)]))) →
      Calls Tryd.prog 84 #[segV sb a zs.length c, .slice (some ⟨b', 0, none⟩) 3 3] w1 fun e w' => e = .returned (.bool (okS (sb, zs) && decide (x + zs.length ≤ 64))) ∧ Keeps (fun b => b = B + 5) w1 w' ∧ ((okS (sb, zs) && decide (x + zs.length ≤ 64)) = true → Chk w' B (x + zs.length)) := by
    intro w1 hb1 b' hbb hc
    have hchk : Chk w1 B x := HH.out.later hb1
    have hird : IRd w1 a zs := HR.out.below hb1
    have hsz := hb1.size
    refine (meets_inv b' 0 3 3 sb a zs.length c (fun i => if i = 0 then 92 else if i = 1 then 93 else 94) (fun i => if i = 0 then #[.pointer (some ⟨B, 0, none⟩), .pointer (some ⟨B + 1, 0, none⟩)] else if i = 1 then #[.pointer (some ⟨B + 2, 0, none⟩), .pointer (some ⟨B + 3, 0, none⟩)] else #[.pointer (some ⟨B + 5, 0, none⟩), .pointer (some ⟨B + 4, 0, none⟩)])
      (fun i => if i = 0 then decide ((1 : Int) ≤ (zs.length : Int) ∧ (zs.length : Int) ≤ 255) else if i = 1 then zs.all okN else decide (x + zs.length ≤ 64)) (fun i w2 => Chk w2 B (if i ≤ 2 then x else x + zs.length) ∧ (i ≤ 2 → IRd w2 a zs)) (fun b => b = B + 5) w1 (by omega) (fun k hk => by omega) (by omega) hc (fun i hi => ?_) (fun k u1 u2 hu hb => ⟨hu.1.later hb, fun h9 => (hu.2 h9).below hb⟩) ⟨hchk, fun _ => hird⟩ (fun i hi u1 _ hu => ?_)).mono ?_
    · match i, hi with
      | 0, _ => exact Tryd.call92
      | 1, _ => exact Tryd.call93
      | 2, _ => exact Tryd.call94
    · match i, hi with
      | 0, _ =>
        refine (fromTo1_any sb a zs.length c 1 255 B (B + 1) u1 hu.1.l1 hu.1.m1).mono ?_
        rintro e w2 ⟨rfl, hb⟩
        exact ⟨rfl, Keeps.of_below hb _, hu.1.later hb, fun _ => (hu.2 (by omega)).below hb⟩
      | 1, _ =>
        refine (nums1_any sb a c zs (B + 2) (B + 3) u1 hl hu.1.l2 hu.1.m2 (hu.2 (by omega))).mono ?_
        rintro e w2 ⟨rfl, hb⟩
        exact ⟨rfl, Keeps.of_below hb _, hu.1.later hb, fun _ => (hu.2 (by omega)).below hb⟩
      | 2, _ =>
        refine (tog1_any sb a zs.length c x (B + 5) (B + 4) u1 hl hx hu.1.ct hu.1.fz hu.1.m3 (by omega)).mono ?_
        rintro e w2 ⟨rfl, hk2, hc2, hz2⟩
        exact ⟨rfl, hk2, hu.1.keeps hk2 (fun _ h => h) _ hc2 hz2, fun h9 => absurd h9 (by omega)⟩
    · rintro e w2 ⟨rfl, hk, hi⟩
      have e3 : allUp (fun i => if i = 0 then decide ((1 : Int) ≤ (zs.length : Int) ∧ (zs.length : Int) ≤ 255) else if i = 1 then zs.all okN else decide (x + zs.length ≤ 64)) 3 = (okS (sb, zs) && decide (x + zs.length ≤ 64)) := by
        rw [HO.out]; simp [allUp]
      rw [e3] at hi ⊢
      exact ⟨rfl, hk, fun h9 => (hi h9).1⟩
  have HKEY := hide key
  clear key HH HR HO
  generalize hbb : (okS (sb, zs) && decide (x + zs.length ≤ 64)) = r at *
  clear hbb
  generalize hnn : zs.length = n at *
  clear hnn
  unfold segV
  go_enter Tryd.func83, Tryd.ntmps83
  go_wp2_with fail
  refine (HKEY.out ((w.alloc (.cells #[.bool sb, .slice a n c] 46)).alloc (.cells #[.func (.func 92) #[] #[.pointer (some ⟨B, 0, none⟩), .pointer (some ⟨B + 1, 0, none⟩)], .func (.func 93) #[] #[.pointer (some ⟨B + 2, 0, none⟩), .pointer (some ⟨B + 3, 0, none⟩)], .func (.func 94) #[] #[.pointer (some ⟨B + 5, 0, none⟩), .pointer (some ⟨B + 4, 0, none⟩)]] 84)) (((Below.refl _ _).alloc (Nat.le_refl _) _).alloc (by simp) _) (w.heap.size + 1) (by omega) ?_).mono ?_
  · intro i hi
    rw [cell_new _ _ _ _ _ (by simp)]
    match i, hi with
    | 0, _ => rfl
    | 1, _ => rfl
    | 2, _ => rfl
  rintro e w2 ⟨rfl, hk, hi⟩
  have HK := hide hk
  have HI := hide hi
  clear hk hi HKEY
  go_wp2
  go_ret
  exact ⟨rfl, (((Keeps.refl _ _).alloc _).alloc _).trans HK.out (fun _ _ h => h), HI.out⟩
theorem goodP_big {ss : List (Bool × List Int)} {k : Nat} (h : 64 < sumP (ss.take k)) : goodP ss = false := by
  unfold goodP
  rw [decide_eq_false (by have := sumP_take ss k; omega), Bool.and_false]
set_option maxHeartbeats 1600000 in
theorem good_some (b off n cap : Nat) (ss : List (Bool × List Int)) (w : World) (hn : ss.length = n) (hsum : n + sumP ss ≤ 100000) (hc : ∀ i s, ss[i]? = some s → w.cell? ⟨b, off + i * 2, none⟩ = some (.bool s.1) ∧ ∃ a' c', w.cell? ⟨b, off + i * 2 + 1, none⟩ = some (.slice a' s.2.length c') ∧ IRd w a' s.2) :
    Calls Tryd.prog 26 #[.slice (some ⟨b, off, none⟩) n cap] w fun e w' => e = .returned (.bool (goodP ss)) ∧ Below w.heap.size w w' := by
  have HC := hide hc
  have HN := hide hn
  clear hc hn
  go_enter Tryd.func26, Tryd.ntmps26
  go_wp2_with fail
  refine (gob_any _).mono ?_
  rintro e w1 ⟨rfl, hk1, hb1⟩
  unfold chkV
  have HK1 := hide hk1
  have HB1 := hide hb1
  clear hk1 hb1
  go_wp2
  go_loopw [9] (fun i wq => ∃ k x : Nat, k ≤ n ∧ i = .int .i64 k ∧ x ≤ 64 ∧ Hid (x = sumP (ss.take k)) ∧ Hid ((ss.take k).all okS = true) ∧ Hid (Chk wq w.heap.size x) ∧ Hid (Below w.heap.size w wq)) (fun i _ => n - (intOf i).toNat)
  case atStart => exact ⟨0, 0, Nat.zero_le _, rfl, by omega, rfl, rfl, HK1, HB1⟩
  case round =>
    obtain ⟨k, x, hk, rfl, hx, HX, HA, HCH, HB⟩ := hrel
    clear HK1 HB1
    by_cases hlt : k < n
    · have hkp : k < ss.length := by rw [HN.out]; exact hlt
      obtain ⟨c0, a', c', c1, hr⟩ := HC.out k ss[k] (List.getElem?_eq_getElem hkp)
      have z0 := World.block_lt_of_cell? w _ c0
      simp only at z0
      have HT : Hid (sumP (ss.take (k + 1)) = sumP (ss.take k) + (ss[k]).2.length) := by show sumP (ss.take (k + 1)) = _; rw [List.take_succ_eq_append_getElem hkp, sumP_snoc]
      have HTA : Hid ((ss.take (k + 1)).all okS = ((ss.take k).all okS && okS ss[k])) := by show (ss.take (k + 1)).all okS = _; rw [List.take_succ_eq_append_getElem hkp]; simp only [List.all_append, List.all_cons, List.all_nil, Bool.and_true]
      have HNO : Hid (okS ss[k] = false → goodP ss = false) := goodP_no (List.getElem_mem hkp)
      have HNB : Hid (64 < sumP (ss.take (k + 1)) → goodP ss = false) := goodP_big
      have hl : (ss[k]).2.length ≤ 100000 := by have := sumP_mem ss _ (List.getElem_mem hkp); omega
      have d0 : wr.cell? ⟨b, off + k * 2, none⟩ = some (.bool (ss[k]).1) := by rw [HB.out.cell (p := ⟨b, off + k * 2, none⟩) z0]; exact c0
      have d1 : wr.cell? ⟨b, off + k * 2 + 1, none⟩ = some (.slice a' (ss[k]).2.length c') := by rw [HB.out.cell (p := ⟨b, off + k * 2 + 1, none⟩) z0]; exact c1
      have HR : Hid (IRd wr a' (ss[k]).2) := hr.below HB.out
      have z1 : b < wr.heap.size := Nat.lt_of_lt_of_le z0 HB.out.size
      generalize hsk : ss[k] = s at *
      clear hsk hr c0 c1
      obtain ⟨b1, zs⟩ := s
      simp only at hl d0 d1
      have HCK : ∀ w2 : World, Below wr.heap.size wr w2 → Hid (Calls Tryd.prog 83 #[segV b1 a' zs.length c', .pointer (some ⟨w.heap.size + 6, 0, none⟩), .pointer (some ⟨w.heap.size + 7, 0, none⟩), .pointer (some ⟨w.heap.size + 8, 0, none⟩)] w2 fun e w' =>
        e = .returned (.bool (okS (b1, zs) && decide (x + zs.length ≤ 64))) ∧ Keeps (fun b => b = w.heap.size + 5) w2 w' ∧ ((okS (b1, zs) && decide (x + zs.length ≤ 64)) = true → Chk w' w.heap.size (x + zs.length))) := fun w2 hb2 => check_any b1 a' c' zs w.heap.size x w2 hl (by omega) (HCH.out.later hb2) (IRd.below HR.out hb2)
      have HCK2 := hide HCK
      clear HCK
      generalize hll : zs.length = l at *
      have HLL := hide hll
      clear hll
      have hk0 : (0 : Int) ≤ (k : Int) := Int.natCast_nonneg _
      have hk1 : (k : Int) < (n : Int) := by omega
      go_wp2_with fail
      refine (HCK2.out (wr.alloc (.cells #[.bool b1, .slice a' l c'] 46)) ((Below.refl _ _).alloc (Nat.le_refl _) _)).out.mono ?_
      rintro e w2 ⟨rfl, hk2, hi2⟩
      have HB2 : Hid (Below w.heap.size w w2) := (HB.out.alloc HB.out.size _).trans (hk2.below w.heap.size (by simp; have := HB.out.size; omega) (fun b h => by omega))
      have HI2 := hide hi2
      clear hk2 hi2 HCK2
      cases hr : (okS (b1, zs) && decide (x + l ≤ 64)) with
      | true =>
        have HR2 := hide hr
        clear hr
        obtain ⟨r1, r2⟩ := (Bool.and_eq_true _ _).mp HR2.out
        have hx2 : x + l ≤ 64 := of_decide_eq_true r2
        have HOK := hide r1
        clear r1 r2
        go_wp2
        exact ⟨⟨k + 1, x + l, by omega, by go_num, hx2, by show x + l = _; rw [HT.out, HX.out, ← HLL.out], by show (ss.take (k + 1)).all okS = true; rw [HTA.out, HA.out, HOK.out]; rfl, HI2.out HR2.out, HB2⟩, by simp [intOf]; omega⟩
      | false =>
        have HG : Hid (goodP ss = false) := by
          show goodP ss = false
          rcases (Bool.and_eq_false_iff).1 hr with h | h
          · exact HNO.out h
          · refine HNB.out ?_
            have := of_decide_eq_false h
            rw [HT.out, ← HX.out]
            omega
        clear hr
        go_wp2
        go_ret
        exact ⟨ret_bool HG.out.symm, HB2.out⟩
    · have hkl : ss.take k = ss := List.take_of_length_le (by rw [HN.out]; omega)
      rw [hkl] at HX HA
      have HG : Hid (goodP ss = true) := by show goodP ss = true; unfold goodP; rw [HA.out, ← HX.out, decide_eq_true hx]; rfl
      go_wp2
      go_ret
      exact ⟨ret_bool HG.out.symm, HB.out⟩
set_option maxHeartbeats 400000 in
theorem good_empty (a : Option Addr) (cap : Nat) (w : World) : Calls Tryd.prog 26 #[.slice a 0 cap] w fun e w' => e = .returned (.bool true) ∧ Below w.heap.size w w' := by
  go_enter Tryd.func26, Tryd.ntmps26
  go_wp2_with fail
  refine (gob_any _).mono ?_
  rintro e w1 ⟨rfl, hk1, hb1⟩
  unfold chkV
  have HB1 := hide hb1
  clear hk1 hb1
  go_wp2
  go_loop [9] (fun i => i = .int .i64 0) (fun i => 0 - (intOf i).toNat)
  case atStart => exact rfl
  case round =>
    obtain rfl := hrel
    go_wp2
    go_ret
    exact ⟨rfl, HB1.out⟩
theorem good_any (a : Option Addr) (cap : Nat) (ss : List (Bool × List Int)) (w : World) (hsum : ss.length + sumP ss ≤ 100000) (h : PthRd w a ss) : Calls Tryd.prog 26 #[.slice a ss.length cap] w fun e w' => e = .returned (.bool (goodP ss)) ∧ Below w.heap.size w w' := by
  by_cases h0 : ss = []
  · subst h0; exact good_empty a cap w
  · obtain ⟨b, off, rfl, hc⟩ := h.cells (List.length_pos_iff.2 h0)
    exact good_some b off _ cap ss w rfl hsum hc
end Go.Proofs.YtempaadgheondaaDoor
