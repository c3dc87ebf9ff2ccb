/- The program's rules, one by one; meets. -/
import Derived.Test.YthigjonagbfbbaaDoorKAb
import Derived.Test.YthigjonagbfbbaaDoorKAl
namespace Go.Proofs.YthigjonagbfbbaaDoor
open Go.RowKit
set_option maxRecDepth 100000

/-- A segment as a value. -/
def segV (b : Bool) (a : Option Addr) (n c : Nat) : Value := .agg #[.bool b, .slice a n c]
set_option maxHeartbeats 400000 in
theorem fromTo1_any (b : Bool) (a : Option Addr) (n c : Nat) (lo hi : Int) (x y : Nat) (w : World) (hx : w.cell? ⟨x, 0, none⟩ = some (.int .i64 lo)) (hy : w.cell? ⟨y, 0, none⟩ = some (.int .i64 hi)) :
    Calls Tryd.prog 75 #[segV b a n c, .pointer (some ⟨x, 0, none⟩), .pointer (some ⟨y, 0, none⟩)] w fun e w' => e = .returned (.bool (decide (lo ≤ (n : Int) ∧ (n : Int) ≤ hi))) ∧ Below w.heap.size w w' := by
  have zx := World.block_lt_of_cell? w _ hx
  have zy := World.block_lt_of_cell? w _ hy
  simp only at zx zy
  unfold segV
  by_cases h : lo ≤ (n : Int)
  · have HD : Hid (decide (lo ≤ (n : Int) ∧ (n : Int) ≤ hi) = decide ((n : Int) ≤ hi)) := by show decide _ = _; rw [Bool.eq_iff_iff]; simp [h]
    go_enter Tryd.func75, Tryd.ntmps75
    go_wp2
    go_ret
    exact ⟨ret_bool HD.out.symm, (Below.refl _ _).alloc (Nat.le_refl _) _⟩
  · have HD : Hid (decide (lo ≤ (n : Int) ∧ (n : Int) ≤ hi) = false) := by show decide _ = _; exact decide_eq_false (fun h9 => h h9.1)
    have h2 : decide (lo ≤ (n : Int)) = false := decide_eq_false h
    clear h
    go_enter Tryd.func75, Tryd.ntmps75
    go_wp2
    go_ret
    exact ⟨ret_bool HD.out.symm, (Below.refl _ _).alloc (Nat.le_refl _) _⟩
set_option maxHeartbeats 800000 in
theorem nums1_some (sb : Bool) (b2 o2 n c : Nat) (zs : List Int) (x y : Nat) (w : World) (hn : zs.length = n) (hl : n ≤ 100000) (hx : w.cell? ⟨x, 0, none⟩ = some (.int .i64 1)) (hy : w.cell? ⟨y, 0, none⟩ = some (.int .i64 4294967295)) (hc : ∀ j z, zs[j]? = some z → w.cell? ⟨b2, o2 + j, none⟩ = some (.int .i64 z)) :
    Calls Tryd.prog 90 #[segV sb (some ⟨b2, o2, none⟩) n c, .pointer (some ⟨x, 0, none⟩), .pointer (some ⟨y, 0, none⟩)] w fun e w' => e = .returned (.bool (zs.all okN)) ∧ Below w.heap.size w w' := by
  have zx := World.block_lt_of_cell? w _ hx
  have zy := World.block_lt_of_cell? w _ hy
  simp only at zx zy
  have HC := hide hc
  have HN := hide hn
  clear hc hn
  unfold segV
  go_enter Tryd.func90, Tryd.ntmps90
  go_wp2
  go_loop [10] (fun i => ∃ q : Nat, q ≤ n ∧ i = .int .i64 q ∧ Hid ((zs.take q).all okN = true)) (fun i => n - (intOf i).toNat)
  case atStart => exact ⟨0, Nat.zero_le _, rfl, rfl⟩
  case round =>
    obtain ⟨q, hq, rfl, HQ⟩ := hrel
    by_cases hlq : q < n
    · have hqp : q < zs.length := by rw [HN.out]; exact hlq
      have cz := HC.out q zs[q] (List.getElem?_eq_getElem hqp)
      have zz := World.block_lt_of_cell? w _ cz
      simp only at zz
      have HTQ : Hid ((zs.take (q + 1)).all okN = ((zs.take q).all okN && okN zs[q])) := by show (zs.take (q + 1)).all _ = _; rw [List.take_succ_eq_append_getElem hqp]; simp only [List.all_append, List.all_cons, List.all_nil, Bool.and_true]
      have HZ : Hid (okN zs[q] = false → zs.all okN = false) := fun h => by
        show zs.all okN = false
        rw [Bool.eq_false_iff]
        intro hh
        rw [List.all_eq_true.1 hh _ (List.getElem_mem hqp)] at h
        cases h
      generalize zs[q] = z at *
      have hq0 : (0 : Int) ≤ (q : Int) := Int.natCast_nonneg _
      have hq1 : (q : Int) < (n : Int) := by omega
      by_cases hz1 : z < 1
      · have HG : Hid (zs.all okN = false) := HZ.out (decide_eq_false (by omega))
        go_wp2
        go_ret
        exact ⟨ret_bool HG.out.symm, (Below.refl _ _).alloc (Nat.le_refl _) _⟩
      · by_cases hz2 : 4294967295 < z
        · have HG : Hid (zs.all okN = false) := HZ.out (decide_eq_false (by omega))
          have j1 : decide (z < 1) = false := decide_eq_false hz1
          go_wp2
          go_ret
          exact ⟨ret_bool HG.out.symm, (Below.refl _ _).alloc (Nat.le_refl _) _⟩
        · have j1 : decide (z < 1) = false := decide_eq_false hz1
          have j2 : decide (4294967295 < z) = false := decide_eq_false hz2
          have HQ2 : Hid ((zs.take (q + 1)).all okN = true) := by
            show (zs.take (q + 1)).all okN = true
            rw [HTQ.out, HQ.out, show okN z = true from decide_eq_true (by omega)]; rfl
          clear hz1 hz2
          go_wp2
          exact ⟨⟨q + 1, by omega, by go_num, HQ2⟩, by simp [intOf]; omega⟩
    · go_wp2
      go_ret
      exact ⟨ret_bool (by rw [← HQ.out, List.take_of_length_le (by rw [HN.out]; omega)]), (Below.refl _ _).alloc (Nat.le_refl _) _⟩
set_option maxHeartbeats 400000 in
theorem nums1_none (sb : Bool) (a : Option Addr) (c : Nat) (x y : Nat) (w : World) :
    Calls Tryd.prog 90 #[segV sb a 0 c, .pointer (some ⟨x, 0, none⟩), .pointer (some ⟨y, 0, none⟩)] w fun e w' => e = .returned (.bool true) ∧ Below w.heap.size w w' := by
  unfold segV
  go_enter Tryd.func90, Tryd.ntmps90
  go_wp2
  go_loop [10] (fun i => i = .int .i64 0) (fun i => 0 - (intOf i).toNat)
  case atStart => exact rfl
  case round =>
    obtain rfl := hrel
    go_wp2
    go_ret
    exact ⟨rfl, (Below.refl _ _).alloc (Nat.le_refl _) _⟩
theorem nums1_any (sb : Bool) (a : Option Addr) (c : Nat) (zs : List Int) (x y : Nat) (w : World) (hl : zs.length ≤ 100000) (hx : w.cell? ⟨x, 0, none⟩ = some (.int .i64 1)) (hy : w.cell? ⟨y, 0, none⟩ = some (.int .i64 4294967295)) (hr : IRd w a zs) :
    Calls Tryd.prog 90 #[segV sb a zs.length c, .pointer (some ⟨x, 0, none⟩), .pointer (some ⟨y, 0, none⟩)] w fun e w' => e = .returned (.bool (zs.all okN)) ∧ Below w.heap.size w w' := by
  cases zs with
  | nil => exact nums1_none sb a c x y w
  | cons z r =>
    obtain ⟨b2, o2, rfl, hc⟩ := hr (by simp)
    exact nums1_some sb b2 o2 _ c _ x y w rfl hl hx hy hc
set_option maxHeartbeats 800000 in
theorem tog1_any (sb : Bool) (a : Option Addr) (n c k C M : Nat) (w : World) (hn : n ≤ 100000) (hk : k ≤ 100000) (hC : w.cell? ⟨C, 0, none⟩ = some (.int .i64 (k : Int))) (hz : w.frozen? ⟨C, 0, none⟩ = false) (hM : w.cell? ⟨M, 0, none⟩ = some (.int .i64 64)) (hne : M ≠ C) :
    Calls Tryd.prog 91 #[segV sb a n c, .pointer (some ⟨C, 0, none⟩), .pointer (some ⟨M, 0, none⟩)] w fun e w' => e = .returned (.bool (decide (k + n ≤ 64))) ∧ Keeps (fun b => b = C) w w' ∧ w'.cell? ⟨C, 0, none⟩ = some (.int .i64 ((k + n : Nat) : Int)) ∧ w'.frozen? ⟨C, 0, none⟩ = false := by
  have zC := World.block_lt_of_cell? w _ hC
  have zM := World.block_lt_of_cell? w _ hM
  simp only at zC zM
  unfold segV
  go_enter Tryd.func91, Tryd.ntmps91
  go_wp2
  go_ret
  refine ⟨ret_bool (by rw [Bool.eq_iff_iff]; simp; omega), ((Keeps.refl (fun b => b = C) w).setCell C _ _ (.inl rfl)).alloc _, ?_, ?_⟩
  · rw [World.cell?_alloc_lt _ _ _ (by simpa using zC), World.cell?_setCell_same _ _ _ hC]; simp
  · simp [go_sem, zC, hz]
/-- Do the first n hold? -/
def allUq (rb : Nat → Bool) : Nat → Bool
  | 0 => true
  | n + 1 => allUq rb n && rb n
theorem allUq_false (rb : Nat → Bool) (k : Nat) (h : rb k = false) : ∀ n, k < n → allUq rb n = false
  | 0, hk => absurd hk (by omega)
  | n + 1, hk => by
    by_cases e : k = n
    · subst e; simp [allUq, h]
    · simp [allUq, allUq_false rb k h n (by omega)]
set_option maxHeartbeats 800000 in
theorem meets_inv (b o n c : Nat) (sb : Bool) (sa : Option Addr) (sn sc : Nat) (fs : Nat → Nat) (caps : Nat → Array Value) (rb : Nat → Bool) (Inv : Nat → World → Prop) (F : Nat → Prop) (w : World) (hn : n ≤ 3)
    (hF : ∀ k, F k → k < w.heap.size) (hb : ¬ F b)
    (hcell : ∀ i, i < n → w.cell? ⟨b, o + i, none⟩ = some (.func (.func (fs i)) #[] (caps i)))
    (hent : ∀ i, i < n → ∀ args w, (callFunc (fs i) args).run Tryd.prog w = .ok (.enter (fs i) args) w)
    (hst : ∀ k w1 w2, Inv k w1 → Below w1.heap.size w1 w2 → Inv k w2) (h0 : Inv 0 w)
    (hcall : ∀ i, i < n → ∀ w1, Keeps F w w1 → Inv i w1 → Calls Tryd.prog (fs i) (#[segV sb sa sn sc] ++ caps i) w1 fun e w2 => e = .returned (.bool (rb i)) ∧ Keeps F w1 w2 ∧ Inv (i + 1) w2) :
    Calls Tryd.prog 58 #[segV sb sa sn sc, .slice (some ⟨b, o, none⟩) n c] w fun e w' => e = .returned (.bool (allUq rb n)) ∧ Keeps F w w' ∧ (allUq rb n = true → Inv n w') := by
  have HC := hide hcell
  have HE := hide hent
  have HK := hide hcall
  have HFF := hide hF
  have HI0 := hide (hst 0 w (w.alloc (.cells #[.bool sb, .slice sa sn sc] 69)) h0 ((Below.refl _ _).alloc (Nat.le_refl _) _))
  clear hcell hcall hent hF hst h0
  unfold segV
  go_enter Tryd.func58, Tryd.ntmps58
  go_wp2
  go_loopw [9] (fun i wq => ∃ k : Nat, k ≤ n ∧ i = .int .i64 k ∧ Hid (allUq rb k = true) ∧ Hid (Keeps F w wq) ∧ Hid (Inv k wq) ∧ w.heap.size < wq.heap.size ∧ wq.cell? ⟨w.heap.size, 0, none⟩ = some (.bool sb) ∧ wq.cell? ⟨w.heap.size, 1, none⟩ = some (.slice sa sn sc)) (fun i _ => n - (intOf i).toNat)
  case atStart => exact ⟨0, Nat.zero_le _, rfl, rfl, (Keeps.refl _ _).alloc _, HI0, by simp, by simp [go_sem], by simp [go_sem]⟩
  case round =>
    obtain ⟨k, hk, rfl, HA, HB, HI, hz, c0, c1⟩ := hrel
    by_cases hlt : k < n
    · have ck : wr.cell? ⟨b, o + k, none⟩ = some (.func (.func (fs k)) #[] (caps k)) := by
        rw [HB.out.cell _ (World.block_lt_of_cell? w _ (HC.out k hlt)) hb]
        exact HC.out k hlt
      have ek := HE.out k hlt
      have hk0 : (0 : Int) ≤ (k : Int) := Int.natCast_nonneg _
      have hk1 : (k : Int) < (n : Int) := by omega
      go_wp2_with fail
      refine (HK.out k hlt wr HB.out HI.out).mono ?_
      rintro e w2 ⟨rfl, hb2, hi2⟩
      have hnF : ¬ F w.heap.size := fun h => absurd (HFF.out _ h) (by omega)
      have d0 : w2.cell? ⟨w.heap.size, 0, none⟩ = some (.bool sb) := by rw [hb2.cell ⟨w.heap.size, 0, none⟩ hz hnF]; exact c0
      have d1 : w2.cell? ⟨w.heap.size, 1, none⟩ = some (.slice sa sn sc) := by rw [hb2.cell ⟨w.heap.size, 1, none⟩ hz hnF]; exact c1
      have HB2 : Hid (Keeps F w w2) := HB.out.trans hb2 (fun _ _ h => h)
      have HI2 := hide hi2
      have hz2 : w.heap.size < w2.heap.size := Nat.lt_of_lt_of_le hz hb2.size
      clear hb2 c0 c1 ck ek hi2
      cases hr : rb k with
      | true =>
        have HR := hide hr
        clear hr
        go_wp2
        exact ⟨⟨k + 1, by omega, by go_num, show allUq rb (k + 1) = true by simp [allUq, HA.out, HR.out], HB2, HI2, hz2, d0, d1⟩, by simp [intOf]; omega⟩
      | false =>
        have HR := hide hr
        clear hr
        go_wp2
        go_ret
        have hfa := allUq_false rb k HR.out n hlt
        exact ⟨ret_bool hfa.symm, HB2.out, fun h => by rw [hfa] at h; cases h⟩
    · have hkn : k = n := by omega
      subst hkn
      go_wp2
      go_ret
      exact ⟨ret_bool HA.out.symm, HB.out, fun _ => HI.out⟩
end Go.Proofs.YthigjonagbfbbaaDoor
/- The program's isSequence. -/
namespace Go.Proofs.YthigjonagbfbbaaDoor
open Go.RowKit
set_option maxRecDepth 100000

set_option maxHeartbeats 400000 in
theorem isSeq_any (b : Bool) (a : Option Addr) (n c : Nat) (w : World) : Calls Tryd.prog 59 #[segV b a n c] w fun e w' => e = .returned (.bool (!b)) ∧ Below w.heap.size w w' := by
  unfold segV
  go_enter Tryd.func59, Tryd.ntmps59
  go_wp2
  go_ret
  exact ⟨rfl, (Below.refl _ _).alloc (Nat.le_refl _) _⟩
end Go.Proofs.YthigjonagbfbbaaDoor
/- Numbers behind a row of the call's own; Clone. -/
namespace Go.Proofs.YthigjonagbfbbaaDoor
open Go.RowKit
set_option maxRecDepth 100000

/-- Numbers that are read, behind a row of the call's own. -/
theorem app_ird {w : World} {B g n k : Nat} {ys : List Int} (zs : List Int) (a : Option Addr) (c : Nat) (hn : ys.length = n) (ho : w.ownsRow B 3 1 (.slice (some ⟨g, 0, none⟩) n k) n (icells ys)) (hB : B ≤ w.heap.size) (hl : n + zs.length ≤ 200000) (h : IRd w a zs) :
    ∃ v' w', (Builtin.append_ #[67, 67] 67 #[.slice (some ⟨g, 0, none⟩) n k, .slice a zs.length c]).run Tryd.prog w = .ok v' w' ∧ w'.ownsRow B 3 1 v' (ys ++ zs).length (icells (ys ++ zs)) ∧ Below B w w' := by
  have key : ∀ ad : Addr, a = some ad → (∀ j x, (icells zs)[j]? = some x → w.cell? (ad.add j) = some x) → ∃ v' w', (Builtin.append_ #[67, 67] 67 #[.slice (some ⟨g, 0, none⟩) n k, .slice a zs.length c]).run Tryd.prog w = .ok v' w' ∧ w'.ownsRow B 3 1 v' (ys ++ zs).length (icells (ys ++ zs)) ∧ Below B w w' := by
    intro ad e hc
    subst e
    obtain ⟨v', w', hr, h2, h3, _, _⟩ := app_more elemInt ho hB ad zs.length c (icells zs) (by rw [icells_length]; omega) hc (icells_one _) (by omega)
    exact ⟨v', w', hr, by rw [icells_app, List.length_append, hn]; exact h2, h3⟩
  cases a with
  | none =>
    have h0 : zs = [] := by
      cases zs with
      | nil => rfl
      | cons z r => obtain ⟨b, off, e, _⟩ := h (by simp); cases e
    subst h0
    have hk : n ≤ k := by
      rcases ho.2 with ⟨e, _⟩ | ⟨g', cap, cur, e, _, _, h1, _⟩
      · cases e
      · simp only [Value.slice.injEq] at e
        obtain ⟨_, _, rfl⟩ := e
        exact h1
    exact ⟨_, w, append_none elemInt w _ n k c hk, by rw [List.append_nil, hn]; exact ho, Below.refl _ _⟩
  | some ad =>
    cases zs with
    | nil => exact key ad rfl (fun j x hx => by simp [icells] at hx)
    | cons y r =>
      obtain ⟨b, off, e, hc⟩ := h (by simp)
      refine key ad rfl (fun j x hx => ?_)
      cases e
      have hj : j < (y :: r).length := by have := (List.getElem?_eq_some_iff.1 hx).1; rwa [icells_length] at this
      have h5 := hc j _ (List.getElem?_eq_getElem hj)
      rw [icells_get _ j _ (List.getElem?_eq_getElem hj)] at hx
      cases hx
      rw [Addr.add_mid]
      exact h5
theorem eql_nil (a : Option Addr) (l c : Nat) (w : World) : (binOp .eql 67 (.slice a l c) (.slice none 0 0)).run Tryd.prog w = .ok (.bool a.isNone) w := by
  simp only [binOp]
  simp [run_equal_slice_nil w 67 3 a l c Tryd.underlying67]
section
attribute [local go_sem ↓] kept_appendI
attribute [local go_sem] eql_nil
set_option maxHeartbeats 800000 in
theorem clone_any (a : Option Addr) (c : Nat) (zs : List Int) (w : World) (hl : zs.length ≤ 100000) (h : IRd w a zs) :
    Calls Tryd.prog 61 #[.slice a zs.length c] w fun e w' => ∃ v, e = .returned v ∧ w'.ownsRow w.heap.size 3 1 v zs.length (icells zs) ∧ Below w.heap.size w w' := by
  cases a with
  | none =>
    have h0 : zs = [] := by
      cases zs with
      | nil => rfl
      | cons z r => obtain ⟨b, off, e, _⟩ := h (by simp); cases e
    subst h0
    go_enter Tryd.func61, Tryd.ntmps61
    go_wp2
    go_ret
    exact ⟨_, rfl, own_nil _ _ _ _, Below.refl _ _⟩
  | some ad =>
    have hb0 : Below w.heap.size w (w.alloc (.cells #[] 3)) := (Below.refl _ _).alloc (Nat.le_refl _) _
    have h1 := own_made w w.heap.size 3 1 #[] 0 (Nat.le_refl _) rfl (by omega)
    obtain ⟨v', w', hr, ho, hb⟩ := app_ird (n := 0) (ys := []) zs (some ad) c rfl h1 hb0.size (by omega) (h.below hb0)
    have HR := hide hr
    have HO : Hid (w'.ownsRow w.heap.size 3 1 v' zs.length (icells zs)) := ho
    have HB := hide (hb0.trans hb)
    clear hr ho hb h h1
    generalize zs.length = n at *
    go_enter Tryd.func61, Tryd.ntmps61
    go_wp2_with fail
    refine kept_appendI_intro _ _ _ _ v' (w' := w') (by rfl) (by rfl) (by exact HR.out) ?_
    go_wp2
    go_ret
    exact ⟨_, rfl, HO.out, HB.out⟩
end
/-- A path of one segment. -/
theorem own_path_one {w : World} {B : Nat} {u : Value} {zs : List Int} (b : Bool) (hu : w.ownsRow B 3 1 u zs.length (icells zs)) (hB : B ≤ w.heap.size) : OwnPath (w.alloc (.cells #[.bool b, u] 69)) B (.slice (some ⟨w.heap.size, 0, none⟩) 1 1) [(b, zs)] := by
  refine ⟨[.bool b, u], own_made w B 69 2 #[.bool b, u] 1 hB rfl (by omega), fun i s hi => ?_⟩
  cases i with
  | zero =>
    simp at hi
    subst hi
    exact ⟨rfl, u, rfl, hu.alloc _⟩
  | succ i => simp at hi
end Go.Proofs.YthigjonagbfbbaaDoor
