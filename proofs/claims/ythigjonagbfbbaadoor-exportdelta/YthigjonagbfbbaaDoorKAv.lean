/- The rule of good paths, segment by segment; the program's Good. -/
import Derived.Test.YthigjonagbfbbaaDoorKAu
import Derived.Test.YthigjonagbfbbaaDoorKAe
import Derived.Deep.RegionWith
import Derived.Deep.DrawnRows
namespace Go.Proofs.YthigjonagbfbbaaDoor
open Go.RowKit
set_option maxRecDepth 100000

/-- The rules of a good path, laid from block B on, x numbers having been seen. -/
structure Chk (w : World) (B x : Nat) : Prop where
  l1 : w.cell? ⟨B, 0, none⟩ = some (.int .i64 1)
  m1 : w.cell? ⟨B + 1, 0, none⟩ = some (.int .i64 255)
  l2 : w.cell? ⟨B + 2, 0, none⟩ = some (.int .i64 1)
  m2 : w.cell? ⟨B + 3, 0, none⟩ = some (.int .i64 4294967295)
  m3 : w.cell? ⟨B + 4, 0, none⟩ = some (.int .i64 64)
  ct : w.cell? ⟨B + 5, 0, none⟩ = some (.int .i64 (x : Int))
  fz : w.frozen? ⟨B + 5, 0, none⟩ = false
  f1 : w.cell? ⟨B + 6, 0, none⟩ = some (.func (.func 75) #[] #[.pointer (some ⟨B, 0, none⟩), .pointer (some ⟨B + 1, 0, none⟩)])
  f2 : w.cell? ⟨B + 7, 0, none⟩ = some (.func (.func 90) #[] #[.pointer (some ⟨B + 2, 0, none⟩), .pointer (some ⟨B + 3, 0, none⟩)])
  f3 : w.cell? ⟨B + 8, 0, none⟩ = some (.func (.func 91) #[] #[.pointer (some ⟨B + 5, 0, none⟩), .pointer (some ⟨B + 4, 0, none⟩)])
theorem Chk.size {w : World} {B x : Nat} (h : Chk w B x) : B + 8 < w.heap.size := by
  have := World.block_lt_of_cell? w _ h.f3
  simpa using this
theorem Chk.keeps {w w' : World} {B x : Nat} {F : Nat → Prop} (h : Chk w B x) (hk : Keeps F w w') (hF : ∀ k, F k → k = B + 5) (x' : Nat) (hc : w'.cell? ⟨B + 5, 0, none⟩ = some (.int .i64 (x' : Int))) (hz : w'.frozen? ⟨B + 5, 0, none⟩ = false) : Chk w' B x' := by
  have hs := h.size
  have key : ∀ k, k ≤ 8 → k ≠ 5 → w'.cell? ⟨B + k, 0, none⟩ = w.cell? ⟨B + k, 0, none⟩ := fun k hk8 hne => hk.cell ⟨B + k, 0, none⟩ (by show B + k < _; omega) (fun h9 => by have := hF _ h9; simp only at this; omega)
  exact ⟨by rw [← h.l1]; exact key 0 (by omega) (by omega), by rw [← h.m1]; exact key 1 (by omega) (by omega), by rw [← h.l2]; exact key 2 (by omega) (by omega), by rw [← h.m2]; exact key 3 (by omega) (by omega), by rw [← h.m3]; exact key 4 (by omega) (by omega), hc, hz,
    by rw [← h.f1]; exact key 6 (by omega) (by omega), by rw [← h.f2]; exact key 7 (by omega) (by omega), by rw [← h.f3]; exact key 8 (by omega) (by omega)⟩
theorem Chk.later {w w' : World} {B x : Nat} (h : Chk w B x) (hb : Below w.heap.size w w') : Chk w' B x :=
  h.keeps (Keeps.of_below hb (fun _ => False)) (fun _ h => h.elim) x (by rw [hb.cell (p := ⟨B + 5, 0, none⟩) (by have := h.size; show B + 5 < _; omega)]; exact h.ct) (by rw [hb.frozen (p := ⟨B + 5, 0, none⟩) (by have := h.size; show B + 5 < _; omega)]; exact h.fz)
set_option maxHeartbeats 400000 in
theorem fromTo_any (lo hi : Int) (w : World) : Calls Tryd.prog 60 #[.int .i64 lo, .int .i64 hi] w fun e w' => e = .returned (.func (.func 75) #[] #[.pointer (some ⟨w.heap.size, 0, none⟩), .pointer (some ⟨w.heap.size + 1, 0, none⟩)]) ∧ w' = (w.alloc (.cells #[.int .i64 lo] 3)).alloc (.cells #[.int .i64 hi] 3) := by
  go_enter Tryd.func60, Tryd.ntmps60
  go_wp2
  go_ret
  exact ⟨rfl, rfl⟩
set_option maxHeartbeats 400000 in
theorem numsFT_any (lo hi : Int) (w : World) : Calls Tryd.prog 76 #[.int .i64 lo, .int .i64 hi] w fun e w' => e = .returned (.func (.func 90) #[] #[.pointer (some ⟨w.heap.size, 0, none⟩), .pointer (some ⟨w.heap.size + 1, 0, none⟩)]) ∧ w' = (w.alloc (.cells #[.int .i64 lo] 3)).alloc (.cells #[.int .i64 hi] 3) := by
  go_enter Tryd.func76, Tryd.ntmps76
  go_wp2
  go_ret
  exact ⟨rfl, rfl⟩
set_option maxHeartbeats 400000 in
theorem tog_any (m : Int) (w : World) : Calls Tryd.prog 77 #[.int .i64 m] w fun e w' => e = .returned (.func (.func 91) #[] #[.pointer (some ⟨w.heap.size + 1, 0, none⟩), .pointer (some ⟨w.heap.size, 0, none⟩)]) ∧ w' = (w.alloc (.cells #[.int .i64 m] 3)).alloc (.cells #[.int .i64 0] 3) := by
  go_enter Tryd.func77, Tryd.ntmps77
  go_wp2
  go_ret
  exact ⟨rfl, rfl⟩
theorem run_store_func (P : Program) (w : World) (a : Addr) (m : Mode) (f : Fn) (ts : Array Value) (cs : Array Value) : (store a (.func f ts cs) m).run P w = stored P w a (.func f ts cs) m := run_store P w a _ m rfl
attribute [local go_sem] run_store_func
/-- The rule itself. -/
def chkV (B : Nat) : Value := .func (.func 78) #[] #[.pointer (some ⟨B + 6, 0, none⟩), .pointer (some ⟨B + 7, 0, none⟩), .pointer (some ⟨B + 8, 0, none⟩)]
theorem cell_new (w : World) (c : Array Value) (t : TypeId) (B i : Nat) (h : B = w.heap.size) : (w.alloc (.cells c t)).cell? ⟨B, i, none⟩ = c[i]? := by subst h; exact World.cell?_alloc_mark w c t _ i
theorem cell_old (w : World) (o : Obj) (B i : Nat) (h : B < w.heap.size) : (w.alloc o).cell? ⟨B, i, none⟩ = w.cell? ⟨B, i, none⟩ := World.cell?_alloc_lt _ _ _ h
/-- The world that holds all rules. -/
def chkW (w : World) : World := ((((((((w.alloc (.cells #[.int .i64 1] 3)).alloc (.cells #[.int .i64 255] 3)).alloc (.cells #[.int .i64 1] 3)).alloc (.cells #[.int .i64 4294967295] 3)).alloc (.cells #[.int .i64 64] 3)).alloc (.cells #[.int .i64 0] 3)).alloc (.cells #[.func (.func 75) #[] #[.pointer (some ⟨w.heap.size, 0, none⟩), .pointer (some ⟨w.heap.size + 1, 0, none⟩)]] 110)).alloc (.cells #[.func (.func 90) #[] #[.pointer (some ⟨w.heap.size + 2, 0, none⟩), .pointer (some ⟨w.heap.size + 3, 0, none⟩)]] 110)).alloc (.cells #[.func (.func 91) #[] #[.pointer (some ⟨w.heap.size + 5, 0, none⟩), .pointer (some ⟨w.heap.size + 4, 0, none⟩)]] 110)
theorem chk_made (w : World) : Chk (chkW w) w.heap.size 0 ∧ Below w.heap.size w (chkW w) := by
  unfold chkW
  refine ⟨⟨?_, ?_, ?_, ?_, ?_, ?_, ?_, ?_, ?_, ?_⟩, ?_⟩
  case refine_11 => exact (((((((((Below.refl _ _).alloc (Nat.le_refl _) _).alloc (by simp) _).alloc (by simp; omega) _).alloc (by simp; omega) _).alloc (by simp; omega) _).alloc (by simp; omega) _).alloc (by simp; omega) _).alloc (by simp; omega) _).alloc (by simp; omega) _
  case refine_7 =>
    repeat rw [World.frozen?_alloc_past _ _ _ (by simp only [World.size_alloc]; omega)]
    rw [World.frozen?_alloc_at _ _ _ _ (by simp only [World.size_alloc])]
  all_goals (repeat rw [cell_old _ _ _ _ (by simp only [World.size_alloc]; omega)])
  all_goals (rw [cell_new _ _ _ _ _ (by first | rfl | (simp only [World.size_alloc]; done) | (simp only [World.size_alloc]; omega))]; rfl)
set_option maxHeartbeats 1600000 in
theorem gob_any (w : World) : Calls Tryd.prog 62 #[] w fun e w' => e = .returned (chkV w.heap.size) ∧ Chk w' w.heap.size 0 ∧ Below w.heap.size w w' := by
  go_enter Tryd.func62, Tryd.ntmps62
  go_wp2_with fail
  refine (fromTo_any 1 255 _).mono ?_
  rintro e w1 ⟨rfl, rfl⟩
  go_wp2_with fail
  refine (numsFT_any 1 4294967295 _).mono ?_
  rintro e w1 ⟨rfl, rfl⟩
  go_wp2_with fail
  refine (tog_any 64 _).mono ?_
  rintro e w1 ⟨rfl, rfl⟩
  obtain ⟨w3, hw3⟩ : ∃ w3, w3 = ((((((w.alloc (.cells #[.int .i64 1] 3)).alloc (.cells #[.int .i64 255] 3)).alloc (.cells #[.int .i64 1] 3)).alloc (.cells #[.int .i64 4294967295] 3)).alloc (.cells #[.int .i64 64] 3)).alloc (.cells #[.int .i64 0] 3)) := ⟨_, rfl⟩
  rw [← hw3]
  have HS3 : Hid (w3.heap.size = w.heap.size + 6) := by show w3.heap.size = _; rw [hw3]; simp
  have HW := hide hw3
  clear hw3
  go_wp2
  go_ret
  have h9 := chk_made w
  unfold chkW at h9
  rw [← HW.out] at h9
  exact ⟨by unfold chkV; rw [← show w3.heap.size = w.heap.size + 6 from HS3.out, show w.heap.size + 7 = w3.heap.size + 1 from by have := HS3.out; omega, show w.heap.size + 8 = w3.heap.size + 1 + 1 from by have := HS3.out; omega]; rfl, h9⟩
theorem okS_two (b : Bool) (zs : List Int) : okS (b, zs) = (decide ((1 : Int) ≤ (zs.length : Int) ∧ (zs.length : Int) ≤ 255) && zs.all okN) := by
  unfold okS
  congr 1
  rw [Bool.eq_iff_iff]
  simp only [decide_eq_true_eq]
  omega
set_option maxHeartbeats 800000 in
theorem check_any (sb : Bool) (a : Option Addr) (c : Nat) (zs : List Int) (B x : Nat) (w : World) (hl : zs.length ≤ 100000) (hx : x ≤ 100000) (h : Chk w B x) (hr : IRd w a zs) :
    Calls Tryd.prog 78 #[segV sb a zs.length c, .pointer (some ⟨B + 6, 0, none⟩), .pointer (some ⟨B + 7, 0, none⟩), .pointer (some ⟨B + 8, 0, none⟩)] w fun e w' =>
      e = .returned (.bool (okS (sb, zs) && decide (x + zs.length ≤ 64))) ∧ Keeps (fun b => b = B + 5) w w' ∧ ((okS (sb, zs) && decide (x + zs.length ≤ 64)) = true → Chk w' B (x + zs.length)) := by
  have hs := h.size
  have g1 := h.f1
  have g2 := h.f2
  have g3 := h.f3
  have HH := hide h
  have HR := hide hr
  clear h hr
  have HO := hide (okS_two sb zs)
  have hb7 : B + 7 < w.heap.size := by omega
  have hb6 : B + 6 < w.heap.size := by omega
  have key : ∀ w1 : World, Below w.heap.size w w1 → ∀ b' : Nat, w.heap.size ≤ b' → (∀ i, i < 3 → w1.cell? ⟨b', 0 + i, none⟩ = some (.func (.func (if i = 0 then 75 else if i = 1 then 90 else 91)) #[] (if i = 0 then #[.pointer (some ⟨B, 0, none⟩), .pointer (some ⟨B + 1, 0, none⟩)] else if i = 1 then #[.pointer (some ⟨B + 2, 0, none⟩), .pointer (some ⟨B + 3, 0, none⟩)] else #[.pointer (some ⟨B + 5, 0, none⟩), .pointer (some ⟨B + 4, 0, none⟩)]))) →
      Calls Tryd.prog 58 #[segV sb a zs.length c, .slice (some ⟨b', 0, none⟩) 3 3] w1 fun e w' => e = .returned (.bool (okS (sb, zs) && decide (x + zs.length ≤ 64))) ∧ Keeps (fun b => b = B + 5) w1 w' ∧ ((okS (sb, zs) && decide (x + zs.length ≤ 64)) = true → Chk w' B (x + zs.length)) := by
    intro w1 hb1 b' hbb hc
    have hchk : Chk w1 B x := HH.out.later hb1
    have hird : IRd w1 a zs := HR.out.below hb1
    have hsz := hb1.size
    refine (meets_inv b' 0 3 3 sb a zs.length c (fun i => if i = 0 then 75 else if i = 1 then 90 else 91) (fun i => if i = 0 then #[.pointer (some ⟨B, 0, none⟩), .pointer (some ⟨B + 1, 0, none⟩)] else if i = 1 then #[.pointer (some ⟨B + 2, 0, none⟩), .pointer (some ⟨B + 3, 0, none⟩)] else #[.pointer (some ⟨B + 5, 0, none⟩), .pointer (some ⟨B + 4, 0, none⟩)])
      (fun i => if i = 0 then decide ((1 : Int) ≤ (zs.length : Int) ∧ (zs.length : Int) ≤ 255) else if i = 1 then zs.all okN else decide (x + zs.length ≤ 64)) (fun i w2 => Chk w2 B (if i ≤ 2 then x else x + zs.length) ∧ (i ≤ 2 → IRd w2 a zs)) (fun b => b = B + 5) w1 (by omega) (fun k hk => by omega) (by omega) hc (fun i hi => ?_) (fun k u1 u2 hu hb => ⟨hu.1.later hb, fun h9 => (hu.2 h9).below hb⟩) ⟨hchk, fun _ => hird⟩ (fun i hi u1 _ hu => ?_)).mono ?_
    · match i, hi with
      | 0, _ => exact Tryd.call75
      | 1, _ => exact Tryd.call90
      | 2, _ => exact Tryd.call91
    · match i, hi with
      | 0, _ =>
        refine (fromTo1_any sb a zs.length c 1 255 B (B + 1) u1 hu.1.l1 hu.1.m1).mono ?_
        rintro e w2 ⟨rfl, hb⟩
        exact ⟨rfl, Keeps.of_below hb _, hu.1.later hb, fun _ => (hu.2 (by omega)).below hb⟩
      | 1, _ =>
        refine (nums1_any sb a c zs (B + 2) (B + 3) u1 hl hu.1.l2 hu.1.m2 (hu.2 (by omega))).mono ?_
        rintro e w2 ⟨rfl, hb⟩
        exact ⟨rfl, Keeps.of_below hb _, hu.1.later hb, fun _ => (hu.2 (by omega)).below hb⟩
      | 2, _ =>
        refine (tog1_any sb a zs.length c x (B + 5) (B + 4) u1 hl hx hu.1.ct hu.1.fz hu.1.m3 (by omega)).mono ?_
        rintro e w2 ⟨rfl, hk2, hc2, hz2⟩
        exact ⟨rfl, hk2, hu.1.keeps hk2 (fun _ h => h) _ hc2 hz2, fun h9 => absurd h9 (by omega)⟩
    · rintro e w2 ⟨rfl, hk, hi⟩
      have e3 : allUq (fun i => if i = 0 then decide ((1 : Int) ≤ (zs.length : Int) ∧ (zs.length : Int) ≤ 255) else if i = 1 then zs.all okN else decide (x + zs.length ≤ 64)) 3 = (okS (sb, zs) && decide (x + zs.length ≤ 64)) := by
        rw [HO.out]; simp [allUq]
      rw [e3] at hi ⊢
      exact ⟨rfl, hk, fun h9 => (hi h9).1⟩
  have HKEY := hide key
  clear key HH HR HO
  generalize hbb : (okS (sb, zs) && decide (x + zs.length ≤ 64)) = r at *
  clear hbb
  generalize hnn : zs.length = n at *
  clear hnn
  unfold segV
  go_enter Tryd.func78, Tryd.ntmps78
  go_wp2_with fail
  refine (HKEY.out ((w.alloc (.cells #[.bool sb, .slice a n c] 69)).alloc (.cells #[.func (.func 75) #[] #[.pointer (some ⟨B, 0, none⟩), .pointer (some ⟨B + 1, 0, none⟩)], .func (.func 90) #[] #[.pointer (some ⟨B + 2, 0, none⟩), .pointer (some ⟨B + 3, 0, none⟩)], .func (.func 91) #[] #[.pointer (some ⟨B + 5, 0, none⟩), .pointer (some ⟨B + 4, 0, none⟩)]] 110)) (((Below.refl _ _).alloc (Nat.le_refl _) _).alloc (by simp) _) (w.heap.size + 1) (by omega) ?_).mono ?_
  · intro i hi
    rw [cell_new _ _ _ _ _ (by simp)]
    match i, hi with
    | 0, _ => rfl
    | 1, _ => rfl
    | 2, _ => rfl
  rintro e w2 ⟨rfl, hk, hi⟩
  have HK := hide hk
  have HI := hide hi
  clear hk hi HKEY
  go_wp2
  go_ret
  exact ⟨rfl, (((Keeps.refl _ _).alloc _).alloc _).trans HK.out (fun _ _ h => h), HI.out⟩
theorem goodP_big {ss : List (Bool × List Int)} {k : Nat} (h : 64 < sumP (ss.take k)) : goodP ss = false := by
  unfold goodP
  rw [decide_eq_false (by have := sumP_take ss k; omega), Bool.and_false]
set_option maxHeartbeats 1600000 in
theorem good_some (b off n cap : Nat) (ss : List (Bool × List Int)) (w : World) (hn : ss.length = n) (hsum : n + sumP ss ≤ 100000) (hc : ∀ i s, ss[i]? = some s → w.cell? ⟨b, off + i * 2, none⟩ = some (.bool s.1) ∧ ∃ a' c', w.cell? ⟨b, off + i * 2 + 1, none⟩ = some (.slice a' s.2.length c') ∧ IRd w a' s.2) :
    Calls Tryd.prog 44 #[.slice (some ⟨b, off, none⟩) n cap] w fun e w' => e = .returned (.bool (goodP ss)) ∧ Below w.heap.size w w' := by
  have HC := hide hc
  have HN := hide hn
  clear hc hn
  go_enter Tryd.func44, Tryd.ntmps44
  go_wp2_with fail
  refine (gob_any _).mono ?_
  rintro e w1 ⟨rfl, hk1, hb1⟩
  unfold chkV
  have HK1 := hide hk1
  have HB1 := hide hb1
  clear hk1 hb1
  go_wp2
  go_loopw [9] (fun i wq => ∃ k x : Nat, k ≤ n ∧ i = .int .i64 k ∧ x ≤ 64 ∧ Hid (x = sumP (ss.take k)) ∧ Hid ((ss.take k).all okS = true) ∧ Hid (Chk wq w.heap.size x) ∧ Hid (Below w.heap.size w wq)) (fun i _ => n - (intOf i).toNat)
  case atStart => exact ⟨0, 0, Nat.zero_le _, rfl, by omega, rfl, rfl, HK1, HB1⟩
  case round =>
    obtain ⟨k, x, hk, rfl, hx, HX, HA, HCH, HB⟩ := hrel
    clear HK1 HB1
    by_cases hlt : k < n
    · have hkp : k < ss.length := by rw [HN.out]; exact hlt
      obtain ⟨c0, a', c', c1, hr⟩ := HC.out k ss[k] (List.getElem?_eq_getElem hkp)
      have z0 := World.block_lt_of_cell? w _ c0
      simp only at z0
      have HT : Hid (sumP (ss.take (k + 1)) = sumP (ss.take k) + (ss[k]).2.length) := by show sumP (ss.take (k + 1)) = _; rw [List.take_succ_eq_append_getElem hkp, sumP_snoc]
      have HTA : Hid ((ss.take (k + 1)).all okS = ((ss.take k).all okS && okS ss[k])) := by show (ss.take (k + 1)).all okS = _; rw [List.take_succ_eq_append_getElem hkp]; simp only [List.all_append, List.all_cons, List.all_nil, Bool.and_true]
      have HNO : Hid (okS ss[k] = false → goodP ss = false) := goodP_no (List.getElem_mem hkp)
      have HNB : Hid (64 < sumP (ss.take (k + 1)) → goodP ss = false) := goodP_big
      have hl : (ss[k]).2.length ≤ 100000 := by have := sumP_mem ss _ (List.getElem_mem hkp); omega
      have d0 : wr.cell? ⟨b, off + k * 2, none⟩ = some (.bool (ss[k]).1) := by rw [HB.out.cell (p := ⟨b, off + k * 2, none⟩) z0]; exact c0
      have d1 : wr.cell? ⟨b, off + k * 2 + 1, none⟩ = some (.slice a' (ss[k]).2.length c') := by rw [HB.out.cell (p := ⟨b, off + k * 2 + 1, none⟩) z0]; exact c1
      have HR : Hid (IRd wr a' (ss[k]).2) := hr.below HB.out
      have z1 : b < wr.heap.size := Nat.lt_of_lt_of_le z0 HB.out.size
      generalize hsk : ss[k] = s at *
      clear hsk hr c0 c1
      obtain ⟨b1, zs⟩ := s
      simp only at hl d0 d1
      have HCK : ∀ w2 : World, Below wr.heap.size wr w2 → Hid (Calls Tryd.prog 78 #[segV b1 a' zs.length c', .pointer (some ⟨w.heap.size + 6, 0, none⟩), .pointer (some ⟨w.heap.size + 7, 0, none⟩), .pointer (some ⟨w.heap.size + 8, 0, none⟩)] w2 fun e w' =>
        e = .returned (.bool (okS (b1, zs) && decide (x + zs.length ≤ 64))) ∧ Keeps (fun b => b = w.heap.size + 5) w2 w' ∧ ((okS (b1, zs) && decide (x + zs.length ≤ 64)) = true → Chk w' w.heap.size (x + zs.length))) := fun w2 hb2 => check_any b1 a' c' zs w.heap.size x w2 hl (by omega) (HCH.out.later hb2) (IRd.below HR.out hb2)
      have HCK2 := hide HCK
      clear HCK
      generalize hll : zs.length = l at *
      have HLL := hide hll
      clear hll
      have hk0 : (0 : Int) ≤ (k : Int) := Int.natCast_nonneg _
      have hk1 : (k : Int) < (n : Int) := by omega
      go_wp2_with fail
      refine (HCK2.out (wr.alloc (.cells #[.bool b1, .slice a' l c'] 69)) ((Below.refl _ _).alloc (Nat.le_refl _) _)).out.mono ?_
      rintro e w2 ⟨rfl, hk2, hi2⟩
      have HB2 : Hid (Below w.heap.size w w2) := (HB.out.alloc HB.out.size _).trans (hk2.below w.heap.size (by simp; have := HB.out.size; omega) (fun b h => by omega))
      have HI2 := hide hi2
      clear hk2 hi2 HCK2
      cases hr : (okS (b1, zs) && decide (x + l ≤ 64)) with
      | true =>
        have HR2 := hide hr
        clear hr
        obtain ⟨r1, r2⟩ := (Bool.and_eq_true _ _).mp HR2.out
        have hx2 : x + l ≤ 64 := of_decide_eq_true r2
        have HOK := hide r1
        clear r1 r2
        go_wp2
        exact ⟨⟨k + 1, x + l, by omega, by go_num, hx2, by show x + l = _; rw [HT.out, HX.out, ← HLL.out], by show (ss.take (k + 1)).all okS = true; rw [HTA.out, HA.out, HOK.out]; rfl, HI2.out HR2.out, HB2⟩, by simp [intOf]; omega⟩
      | false =>
        have HG : Hid (goodP ss = false) := by
          show goodP ss = false
          rcases (Bool.and_eq_false_iff).1 hr with h | h
          · exact HNO.out h
          · refine HNB.out ?_
            have := of_decide_eq_false h
            rw [HT.out, ← HX.out]
            omega
        clear hr
        go_wp2
        go_ret
        exact ⟨ret_bool HG.out.symm, HB2.out⟩
    · have hkl : ss.take k = ss := List.take_of_length_le (by rw [HN.out]; omega)
      rw [hkl] at HX HA
      have HG : Hid (goodP ss = true) := by show goodP ss = true; unfold goodP; rw [HA.out, ← HX.out, decide_eq_true hx]; rfl
      go_wp2
      go_ret
      exact ⟨ret_bool HG.out.symm, HB.out⟩
set_option maxHeartbeats 400000 in
theorem good_empty (a : Option Addr) (cap : Nat) (w : World) : Calls Tryd.prog 44 #[.slice a 0 cap] w fun e w' => e = .returned (.bool true) ∧ Below w.heap.size w w' := by
  go_enter Tryd.func44, Tryd.ntmps44
  go_wp2_with fail
  refine (gob_any _).mono ?_
  rintro e w1 ⟨rfl, hk1, hb1⟩
  unfold chkV
  have HB1 := hide hb1
  clear hk1 hb1
  go_wp2
  go_loop [9] (fun i => i = .int .i64 0) (fun i => 0 - (intOf i).toNat)
  case atStart => exact rfl
  case round =>
    obtain rfl := hrel
    go_wp2
    go_ret
    exact ⟨rfl, HB1.out⟩
theorem good_any (a : Option Addr) (cap : Nat) (ss : List (Bool × List Int)) (w : World) (hsum : ss.length + sumP ss ≤ 100000) (h : PthRd w a ss) : Calls Tryd.prog 44 #[.slice a ss.length cap] w fun e w' => e = .returned (.bool (goodP ss)) ∧ Below w.heap.size w w' := by
  by_cases h0 : ss = []
  · subst h0; exact good_empty a cap w
  · obtain ⟨b, off, rfl, hc⟩ := h.cells (List.length_pos_iff.2 h0)
    exact good_some b off _ cap ss w rfl hsum hc
end Go.Proofs.YthigjonagbfbbaaDoor
/- The program's Prepend. -/
namespace Go.Proofs.YthigjonagbfbbaaDoor
open Go.RowKit
set_option maxRecDepth 100000

theorem meets_two (sb : Bool) (sa : Option Addr) (sn sc R x y : Nat) (w : World) (h0 : w.cell? ⟨R, 0, none⟩ = some (.func (.func 59) #[] #[])) (h1 : w.cell? ⟨R, 1, none⟩ = some (.func (.func 75) #[] #[.pointer (some ⟨x, 0, none⟩), .pointer (some ⟨y, 0, none⟩)]))
    (hx : w.cell? ⟨x, 0, none⟩ = some (.int .i64 0)) (hy : w.cell? ⟨y, 0, none⟩ = some (.int .i64 254)) :
    Calls Tryd.prog 58 #[segV sb sa sn sc, .slice (some ⟨R, 0, none⟩) 2 2] w fun e w' => e = .returned (.bool (!sb && decide (sn ≤ 254))) ∧ Below w.heap.size w w' := by
  have hbx := World.block_lt_of_cell? w _ hx
  have hby := World.block_lt_of_cell? w _ hy
  refine (meets_inv R 0 2 2 sb sa sn sc (fun i => if i = 0 then 59 else 75) (fun i => if i = 0 then #[] else #[.pointer (some ⟨x, 0, none⟩), .pointer (some ⟨y, 0, none⟩)]) (fun i => if i = 0 then !sb else decide ((0 : Int) ≤ (sn : Int) ∧ (sn : Int) ≤ 254))
    (fun _ w' => Below w.heap.size w w') (fun _ => False) w (by omega) (fun _ h => h.elim) (fun h => h) (fun i hi => ?_) (fun i hi => ?_) (fun k u1 u2 hu hb => hu.trans (hb.mono hu.size)) (Below.refl _ _) (fun i hi u1 _ hu => ?_)).mono ?_
  · match i, hi with
    | 0, _ => exact h0
    | 1, _ => exact h1
  · match i, hi with
    | 0, _ => exact Tryd.call59
    | 1, _ => exact Tryd.call75
  · match i, hi with
    | 0, _ =>
      refine (isSeq_any sb sa sn sc u1).mono ?_
      rintro e w2 ⟨rfl, hb⟩
      exact ⟨rfl, Keeps.of_below hb _, hu.trans (hb.mono hu.size)⟩
    | 1, _ =>
      refine (fromTo1_any sb sa sn sc 0 254 x y u1 (by rw [hu.cell (p := ⟨x, 0, none⟩) hbx]; exact hx) (by rw [hu.cell (p := ⟨y, 0, none⟩) hby]; exact hy)).mono ?_
      rintro e w2 ⟨rfl, hb⟩
      exact ⟨rfl, Keeps.of_below hb _, hu.trans (hb.mono hu.size)⟩
  · rintro e w2 ⟨rfl, hk, _⟩
    refine ⟨ret_bool ?_, hk.below w.heap.size (Nat.le_refl _) (fun _ h => h.elim)⟩
    simp only [allUq, Bool.true_and]
    congr 1
    simp only [show ¬ (1 = 0) from by omega, if_false]
    rw [Bool.eq_iff_iff]
    simp only [decide_eq_true_eq]
    omega
/-- Prepend's world when it asks. -/
def prepW (z : Int) (w : World) : World := ((((w.alloc (.cells #[.int .i64 z] 3)).alloc (.cells #[.int .i64 0] 3)).alloc (.cells #[.int .i64 254] 3)).alloc (.cells #[.func (.func 59) #[] #[], .func (.func 75) #[] #[.pointer (some ⟨w.heap.size + 1, 0, none⟩), .pointer (some ⟨w.heap.size + 1 + 1, 0, none⟩)]] 110)).drew
theorem prep_meets (sb : Bool) (a0 : Option Addr) (n0 c0 : Nat) (z : Int) (w : World) : Calls Tryd.prog 58 #[.agg #[.bool sb, .slice a0 n0 c0], .slice (some ⟨w.heap.size + 1 + 1 + 1, 0, none⟩) 2 2] (prepW z w) fun e w' => e = .returned (.bool (!sb && decide (n0 ≤ 254))) ∧ Below w.heap.size w w' ∧ w'.ownsRow w.heap.size 3 1 (.slice (some ⟨w.heap.size, 0, none⟩) 1 1) 1 (icells [z]) := by
  have hb : Below w.heap.size w (prepW z w) := (((((Below.refl _ _).alloc (Nat.le_refl _) _).alloc (by simp only [World.size_alloc]; omega) _).alloc (by simp only [World.size_alloc]; omega) _).alloc (by simp only [World.size_alloc]; omega) _).drew
  have ho : (prepW z w).ownsRow w.heap.size 3 1 (.slice (some ⟨w.heap.size, 0, none⟩) 1 1) 1 (icells [z]) := ((((own_made w w.heap.size 3 1 #[.int .i64 z] 1 (Nat.le_refl _) rfl (by omega)).alloc _).alloc _).alloc _).drew
  have hs : (prepW z w).heap.size = w.heap.size + 4 := by unfold prepW; simp
  refine (meets_two sb a0 n0 c0 (w.heap.size + 1 + 1 + 1) (w.heap.size + 1) (w.heap.size + 1 + 1) (prepW z w) ?_ ?_ ?_ ?_).mono ?_
  · unfold prepW
    rw [World.cell?_drew, cell_new _ _ _ _ _ (by simp)]; rfl
  · unfold prepW
    rw [World.cell?_drew, cell_new _ _ _ _ _ (by simp)]; rfl
  · unfold prepW
    rw [World.cell?_drew, cell_old _ _ _ _ (by simp only [World.size_alloc]; omega), cell_old _ _ _ _ (by simp only [World.size_alloc]; omega), cell_new _ _ _ _ _ (by simp)]; rfl
  · unfold prepW
    rw [World.cell?_drew, cell_old _ _ _ _ (by simp only [World.size_alloc]; omega), cell_new _ _ _ _ _ (by simp)]; rfl
  · rintro e w' ⟨rfl, hb'⟩
    exact ⟨rfl, hb.trans (hb'.mono hb.size), own_later ho hb'⟩
section
attribute [local go_sem ↓] Go.wp_at_zero Go.wp_at_succ kept_appendI kept_appendS
attribute [local go_sem] run_store_func
set_option maxHeartbeats 3200000 in
theorem prepend_none (a : Option Addr) (c : Nat) (z : Int) (w : World) :
    Calls Tryd.prog 42 #[.slice a 0 c, .int .i64 z] w fun e w' => ∃ v, e = .returned v ∧ OwnPath w' w.heap.size v (prepP z []) ∧ Below w.heap.size w w' := by
  have h1 := own_made w w.heap.size 3 1 #[.int .i64 z] 1 (Nat.le_refl _) rfl (by omega)
  have hb1 : Below w.heap.size w (w.alloc (.cells #[.int .i64 z] 3)) := (Below.refl _ _).alloc (Nat.le_refl _) _
  have HOP := hide ((own_path_one (w := w.alloc (.cells #[.int .i64 z] 3)) (zs := [z]) false h1 (by simp)).later (Below.refl _ _).drew)
  have HB1 := hide (hb1.alloc (by simp) (.cells #[.bool false, .slice (some ⟨w.heap.size, 0, none⟩) 1 1] 69)).drew
  clear h1 hb1
  go_enter Tryd.func42, Tryd.ntmps42
  go_wp2_with fail
  go_region
  go_wp2
  go_loop [6, 35] (fun v i => i = .int .i64 0 ∧ v = .slice (some ⟨w.heap.size + 1, 0, none⟩) 1 1) (fun _ i => 0 - (intOf i).toNat)
  case atStart => exact ⟨rfl, rfl⟩
  case round =>
    obtain ⟨rfl, rfl⟩ := hrel
    go_wp2
    go_ret
    exact ⟨_, rfl, by have h9 := HOP.out; rw [World.size_alloc] at h9; exact h9, HB1.out⟩
set_option maxHeartbeats 6400000 in
theorem prepend_not (b off c n0 c0 : Nat) (z : Int) (sb : Bool) (a0 : Option Addr) (ss : List (Bool × List Int)) (w : World) (hl0 : ss.length + sumP ss ≤ 50000) (hn : 0 < ss.length) (HRS : Hid (PthRd w (some ⟨b, off, none⟩) ss)) (h0 : w.cell? ⟨b, off, none⟩ = some (.bool sb)) (h1 : w.cell? ⟨b, off + 1, none⟩ = some (.slice a0 n0 c0)) (hno : (!sb && decide (n0 ≤ 254)) = false) :
    Calls Tryd.prog 42 #[.slice (some ⟨b, off, none⟩) ss.length c, .int .i64 z] w fun e w' => ∃ v, e = .returned v ∧ OwnPath w' w.heap.size v ([(false, [z])] ++ ss) ∧ Below w.heap.size w w' := by
  have hbl := World.block_lt_of_cell? w _ h0
  simp only at hbl
  have hbl1 : b < w.heap.size + 1 := by omega
  have hbl2 : b < w.heap.size + 1 + 1 := by omega
  have hbl3 : b < w.heap.size + 1 + 1 + 1 := by omega
  have hbl4 : b < w.heap.size + 1 + 1 + 1 + 1 := by omega
  have HL0 := hide hl0
  clear hl0
  generalize hnr : ss.length = nr at *
  have HNR := hide hnr
  clear hnr
  have hnrb : nr ≤ 50000 := by have := HL0.out; omega
  have jn : (0 : Int) < (nr : Int) := by omega
  have HM := hide (prep_meets sb a0 n0 c0 z w)
  rw [hno] at HM
  unfold prepW at HM
  clear hno
  go_enter Tryd.func42, Tryd.ntmps42
  go_wp2_with fail
  go_region_with (first
    | (go_at_call 60; refine (fromTo_any 0 254 _).mono ?_; rintro e w9 ⟨rfl, rfl⟩)
    | (go_at_call 58; refine HM.out.mono ?_; rintro e w8 ⟨rfl, hb8, ho8⟩; have HB8 := hide hb8; have HO8 := hide ho8; clear hb8 ho8))
  all_goals (
    have HOP := hide (own_path_one (w := w8) (zs := [z]) false HO8.out HB8.out.size)
    have HBL : Hid (Below w.heap.size w (w8.alloc (.cells #[.bool false, .slice (some ⟨w.heap.size, 0, none⟩) 1 1] 69))) := HB8.out.alloc HB8.out.size _
    clear HB8 HO8 HM
    go_wp2
    go_loopw [6, 35] (fun v i wq => ∃ k : Nat, k ≤ nr ∧ i = .int .i64 k ∧ Hid (OwnPath wq w.heap.size v ([(false, [z])] ++ ss.take k)) ∧ Hid (Below w.heap.size w wq)) (fun _ i _ => nr - (intOf i).toNat)
    case atStart => exact ⟨0, Nat.zero_le _, rfl, by show OwnPath _ _ _ _; rw [List.take_zero, List.append_nil]; exact HOP.out, HBL⟩
    case round =>
      clear HOP HBL
      obtain ⟨k, hk, rfl, HO, HB⟩ := hrel
      by_cases hlt : k < nr
      · have hkp : k < ss.length := by rw [HNR.out]; exact hlt
        obtain ⟨Bx, Ox, hae, hc⟩ := HRS.out.cells (by omega)
        cases hae
        obtain ⟨e0, a1, c1, e1, hr⟩ := hc k ss[k] (List.getElem?_eq_getElem hkp)
        have z0 := World.block_lt_of_cell? w _ e0
        simp only at z0
        have HT : Hid ([(false, [z])] ++ ss.take (k + 1) = [(false, [z])] ++ ss.take k ++ [ss[k]]) := by show [(false, [z])] ++ ss.take (k + 1) = _; rw [List.take_succ_eq_append_getElem hkp, ← List.append_assoc]
        have hll : (ss[k]).2.length ≤ 100000 := by have := sumP_mem ss _ (List.getElem_mem hkp); have := HL0.out; omega
        have hat : ([(false, [z])] ++ ss.take k).length ≤ 100000 := by
          have := HL0.out
          simp only [List.length_append, List.length_take, List.length_cons, List.length_nil]
          omega
        have d0 : wr.cell? ⟨b, off + k * 2, none⟩ = some (.bool (ss[k]).1) := by rw [HB.out.cell (p := ⟨b, off + k * 2, none⟩) z0]; exact e0
        have d1 : wr.cell? ⟨b, off + k * 2 + 1, none⟩ = some (.slice a1 (ss[k]).2.length c1) := by rw [HB.out.cell (p := ⟨b, off + k * 2 + 1, none⟩) z0]; exact e1
        have HCL : Hid (∀ w3, Below wr.heap.size wr w3 → Calls Tryd.prog 61 #[.slice a1 (ss[k]).2.length c1] w3 fun e w' => ∃ v, e = .returned v ∧ w'.ownsRow w3.heap.size 3 1 v (ss[k]).2.length (icells (ss[k]).2) ∧ Below w3.heap.size w3 w') := fun w3 hb3 => clone_any a1 c1 (ss[k]).2 w3 hll ((hr.below HB.out).below hb3)
        generalize hsk : ss[k] = sg at *
        clear hsk hr hc e0 e1
        obtain ⟨b1, zs⟩ := sg
        simp only at d0 d1 HCL hll
        have HZL : Hid (zs.length = zs.length) := rfl
        generalize hzl : zs.length = l at d0 d1 HCL hll
        have HZE := hide hzl
        clear hzl HZL
        have hk0 : (0 : Int) ≤ (k : Int) := Int.natCast_nonneg _
        have hk1 : (k : Int) < (nr : Int) := by omega
        have z1 : b < wr.heap.size := Nat.lt_of_lt_of_le z0 HB.out.size
        have HBS := hide HB.out.size
        have HC2 : Hid (Calls Tryd.prog 61 #[.slice a1 l c1] (wr.alloc (.cells #[.bool b1, .slice a1 l c1] 69)).drew fun e w5 => ∃ a9 c9 v6 w6, e = .returned (.slice a9 l c9) ∧ w5.cell? ⟨wr.heap.size, 0, none⟩ = some (.bool b1) ∧ wr.heap.size < w5.heap.size ∧ (Builtin.append_ #[30, 30] 30 #[u6, .slice (some ⟨w5.heap.size, 0, none⟩) 1 1]).run Tryd.prog (w5.alloc (.cells #[.bool b1, .slice a9 l c9] 69)) = .ok v6 w6 ∧ OwnPath w6 w.heap.size v6 ([(false, [z])] ++ ss.take (k + 1)) ∧ Below w.heap.size w w6) := by
          have hb0 : Below wr.heap.size wr (wr.alloc (.cells #[.bool b1, .slice a1 l c1] 69)).drew := ((Below.refl _ _).alloc (Nat.le_refl _) _).drew
          have hbs := HB.out.size
          have hb0s := hb0.size
          refine (HCL.out _ hb0).mono ?_
          rintro e w5 ⟨v5, rfl, ho5, hb5⟩
          obtain ⟨a9, c9, rfl⟩ := own_shape ho5
          have hB5 : Below w.heap.size w w5 := (HB.out.trans (hb0.mono hbs)).trans (hb5.mono (by omega))
          obtain ⟨v6, w6, hr6, ho6, hb6⟩ := ((HO.out.later hb0).later hb5).snoc (b := b1) (zs := zs) (u := .slice a9 l c9) (by rw [HZE.out]; exact own_base ho5 (by omega)) rfl hB5.size hat w5.heap.size rfl
          refine ⟨a9, c9, v6, w6, rfl, ?_, ?_, hr6, ?_, hB5.trans hb6⟩
          · rw [hb5.cell (p := ⟨wr.heap.size, 0, none⟩) (by simp)]; simp [go_sem]
          · have := hb5.size; simp at this; omega
          · rw [HT.out]; exact ho6
        go_wp2_with fail
        go_region_with (first
          | (go_at_call 61; refine HC2.out.mono ?_; rintro e w5 ⟨a9, c9, v6, w6, rfl, r0, hz5, hr6, ho6, hb6⟩; have HR6 := hide hr6; have HO6 := hide ho6; have HB6 := hide hb6; clear hr6 ho6 hb6)
          | (refine kept_appendS_intro _ _ _ (.slice (some ⟨w5.heap.size, 0, none⟩) 1 1) v6 (w' := w6) (by rfl) (by rfl) (by exact HR6.out) ?_))
        all_goals go_wp2
        all_goals exact ⟨⟨k + 1, by omega, by go_num, HO6, HB6⟩, by simp [intOf]; omega⟩
      · have hkl : ss.take k = ss := List.take_of_length_le (by rw [HNR.out]; omega)
        rw [hkl] at HO
        go_wp2
        go_ret
        exact ⟨_, rfl, HO.out, HB.out⟩)
end
end Go.Proofs.YthigjonagbfbbaaDoor
/- The program's Prepend where the number goes into the first segment; Prepend of any path. -/
namespace Go.Proofs.YthigjonagbfbbaaDoor
open Go.RowKit
set_option maxRecDepth 100000

section
attribute [local go_sem ↓] Go.wp_at_zero Go.wp_at_succ kept_appendI kept_appendS
attribute [local go_sem] run_store_func
set_option maxHeartbeats 6400000 in
theorem prepend_one (b off n0 c0 : Nat) (z : Int) (a0 : Option Addr) (zs : List Int) (w : World) (HN0 : Hid (zs.length = n0)) (hn0 : n0 ≤ 254) (h0 : w.cell? ⟨b, off, none⟩ = some (.bool false)) (h1 : w.cell? ⟨b, off + 1, none⟩ = some (.slice a0 n0 c0)) (HI : Hid (IRd w a0 zs)) :
    Calls Tryd.prog 42 #[.slice (some ⟨b, off, none⟩) 1 1, .int .i64 z] w fun e w' => ∃ v, e = .returned v ∧ OwnPath w' w.heap.size v [(false, [z] ++ zs)] ∧ Below w.heap.size w w' := by
  have hbl := World.block_lt_of_cell? w _ h0
  simp only at hbl
  have hbl1 : b < w.heap.size + 1 := by omega
  have hbl2 : b < w.heap.size + 1 + 1 := by omega
  have hbl3 : b < w.heap.size + 1 + 1 + 1 := by omega
  have hbl4 : b < w.heap.size + 1 + 1 + 1 + 1 := by omega
  have HM := hide (prep_meets false a0 n0 c0 z w)
  rw [show (!false && decide (n0 ≤ 254)) = true from by rw [decide_eq_true hn0]; rfl] at HM
  unfold prepW at HM
  go_enter Tryd.func42, Tryd.ntmps42
  go_wp2_with fail
  go_region_with (first
    | (go_at_call 60; refine (fromTo_any 0 254 _).mono ?_; rintro e w9 ⟨rfl, rfl⟩)
    | (go_at_call 58; refine HM.out.mono ?_; rintro e w8 ⟨rfl, hb8, ho8⟩; have HB8 := hide hb8; have HO8 := hide ho8; clear hb8 ho8))
  all_goals (
    obtain ⟨v9, w9, hr9, ho9, hb9⟩ := app_ird (n := 1) (ys := [z]) zs a0 c0 rfl HO8.out HB8.out.size (by rw [HN0.out]; omega) (HI.out.below HB8.out)
    obtain ⟨a9, c9, rfl⟩ := own_shape ho9
    have e9 : ([z] ++ zs).length = n0 + 1 := by rw [List.length_append, HN0.out]; simp; omega
    rw [e9, HN0.out] at hr9
    have HR9 := hide hr9
    have hBs : w.heap.size ≤ w9.heap.size := Nat.le_trans HB8.out.size hb9.size
    have k1 : w8.cell? ⟨b, off + 1, none⟩ = some (.slice a0 n0 c0) := by rw [HB8.out.cell (p := ⟨b, off + 1, none⟩) hbl]; exact h1
    have hb8l : b < w8.heap.size := Nat.lt_of_lt_of_le hbl HB8.out.size
    have HOP := hide (own_path_one (w := w9) (zs := [z] ++ zs) false ho9 hBs)
    rw [e9] at HOP
    have HBL : Hid (Below w.heap.size w (w9.alloc (.cells #[.bool false, .slice a9 (n0 + 1) c9] 69))) := (HB8.out.trans hb9).alloc hBs _
    clear hr9 ho9 hb9 HO8 HM e9
    go_wp2_with fail
    refine kept_appendI_intro _ _ _ _ (.slice a9 (n0 + 1) c9) (w' := w9) (by rfl) (by rfl) (by exact HR9.out) ?_
    clear HR9
    go_wp2
    go_loop [6, 35] (fun v i => i = .int .i64 0 ∧ v = .slice (some ⟨w9.heap.size, 0, none⟩) 1 1) (fun _ i => 0 - (intOf i).toNat)
    case atStart => exact ⟨rfl, rfl⟩
    case round =>
      obtain ⟨rfl, rfl⟩ := hrel
      go_wp2
      go_ret
      exact ⟨_, rfl, HOP.out, HBL.out⟩)
set_option maxHeartbeats 6400000 in
theorem prepend_yes (b off c n0 c0 : Nat) (z : Int) (a0 : Option Addr) (zs : List Int) (r : List (Bool × List Int)) (w : World) (hl0 : r.length + sumP r ≤ 50000) (HN0 : Hid (zs.length = n0)) (hn0 : n0 ≤ 254) (hrc : r.length + 1 ≤ c) (hc1 : ¬ c = 1) (HRS : Hid (PthRd w (some ⟨b, off + 2, none⟩) r)) (h0 : w.cell? ⟨b, off, none⟩ = some (.bool false)) (h1 : w.cell? ⟨b, off + 1, none⟩ = some (.slice a0 n0 c0)) (HI : Hid (IRd w a0 zs)) :
    Calls Tryd.prog 42 #[.slice (some ⟨b, off, none⟩) (r.length + 1) c, .int .i64 z] w fun e w' => ∃ v, e = .returned v ∧ OwnPath w' w.heap.size v ([(false, [z] ++ zs)] ++ r) ∧ Below w.heap.size w w' := by
  have hbl := World.block_lt_of_cell? w _ h0
  simp only at hbl
  have hbl1 : b < w.heap.size + 1 := by omega
  have hbl2 : b < w.heap.size + 1 + 1 := by omega
  have hbl3 : b < w.heap.size + 1 + 1 + 1 := by omega
  have hbl4 : b < w.heap.size + 1 + 1 + 1 + 1 := by omega
  have HL0 := hide hl0
  clear hl0
  generalize hnr : r.length = nr at *
  have HNR := hide hnr
  clear hnr
  have hnrb : nr ≤ 50000 := by have := HL0.out; omega
  have hn : 0 < nr + 1 := by omega
  have jn : (0 : Int) < (nr : Int) + 1 := by omega
  have j2 : (1 : Int) ≤ (nr : Int) + 1 := by omega
  have j3 : (nr : Int) + 1 ≤ (c : Int) := by omega
  have HM := hide (prep_meets false a0 n0 c0 z w)
  rw [show (!false && decide (n0 ≤ 254)) = true from by rw [decide_eq_true hn0]; rfl] at HM
  unfold prepW at HM
  go_enter Tryd.func42, Tryd.ntmps42
  go_wp2_with fail
  go_region_with (first
    | (go_at_call 60; refine (fromTo_any 0 254 _).mono ?_; rintro e w9 ⟨rfl, rfl⟩)
    | (go_at_call 58; refine HM.out.mono ?_; rintro e w8 ⟨rfl, hb8, ho8⟩; have HB8 := hide hb8; have HO8 := hide ho8; clear hb8 ho8))
  all_goals (
    obtain ⟨v9, w9, hr9, ho9, hb9⟩ := app_ird (n := 1) (ys := [z]) zs a0 c0 rfl HO8.out HB8.out.size (by rw [HN0.out]; omega) (HI.out.below HB8.out)
    obtain ⟨a9, c9, rfl⟩ := own_shape ho9
    have e9 : ([z] ++ zs).length = n0 + 1 := by rw [List.length_append, HN0.out]; simp; omega
    rw [e9, HN0.out] at hr9
    have HR9 := hide hr9
    have hBs : w.heap.size ≤ w9.heap.size := Nat.le_trans HB8.out.size hb9.size
    have k1 : w8.cell? ⟨b, off + 1, none⟩ = some (.slice a0 n0 c0) := by rw [HB8.out.cell (p := ⟨b, off + 1, none⟩) hbl]; exact h1
    have hb8l : b < w8.heap.size := Nat.lt_of_lt_of_le hbl HB8.out.size
    have HOP := hide (own_path_one (w := w9) (zs := [z] ++ zs) false ho9 hBs)
    rw [e9] at HOP
    have HBL : Hid (Below w.heap.size w (w9.alloc (.cells #[.bool false, .slice a9 (n0 + 1) c9] 69))) := (HB8.out.trans hb9).alloc hBs _
    clear hr9 ho9 hb9 HO8 HM e9
    go_wp2_with fail
    refine kept_appendI_intro _ _ _ _ (.slice a9 (n0 + 1) c9) (w' := w9) (by rfl) (by rfl) (by exact HR9.out) ?_
    clear HR9
    go_wp2
    go_loopw [6, 35] (fun v i wq => ∃ k : Nat, k ≤ nr ∧ i = .int .i64 k ∧ Hid (OwnPath wq w.heap.size v ([(false, [z] ++ zs)] ++ r.take k)) ∧ Hid (Below w.heap.size w wq)) (fun _ i _ => nr - (intOf i).toNat)
    case atStart => exact ⟨0, Nat.zero_le _, rfl, by show OwnPath _ _ _ _; rw [List.take_zero, List.append_nil]; exact HOP.out, HBL⟩
    case round =>
      clear HOP HBL
      obtain ⟨k, hk, rfl, HO, HB⟩ := hrel
      by_cases hlt : k < nr
      · have hkp : k < r.length := by rw [HNR.out]; exact hlt
        obtain ⟨Bx, Ox, hae, hc⟩ := HRS.out.cells (by omega)
        cases hae
        obtain ⟨e0, a1, c1, e1, hr⟩ := hc k r[k] (List.getElem?_eq_getElem hkp)
        have z0 := World.block_lt_of_cell? w _ e0
        simp only at z0
        have HT : Hid ([(false, [z] ++ zs)] ++ r.take (k + 1) = [(false, [z] ++ zs)] ++ r.take k ++ [r[k]]) := by show [(false, [z] ++ zs)] ++ r.take (k + 1) = _; rw [List.take_succ_eq_append_getElem hkp, ← List.append_assoc]
        have hll : (r[k]).2.length ≤ 100000 := by have := sumP_mem r _ (List.getElem_mem hkp); have := HL0.out; omega
        have hat : ([(false, [z] ++ zs)] ++ r.take k).length ≤ 100000 := by
          have := HL0.out
          simp only [List.length_append, List.length_take, List.length_cons, List.length_nil]
          omega
        have d0 : wr.cell? ⟨b, off + 2 + k * 2, none⟩ = some (.bool (r[k]).1) := by rw [HB.out.cell (p := ⟨b, off + 2 + k * 2, none⟩) z0]; exact e0
        have d1 : wr.cell? ⟨b, off + 2 + k * 2 + 1, none⟩ = some (.slice a1 (r[k]).2.length c1) := by rw [HB.out.cell (p := ⟨b, off + 2 + k * 2 + 1, none⟩) z0]; exact e1
        have HCL : Hid (∀ w3, Below wr.heap.size wr w3 → Calls Tryd.prog 61 #[.slice a1 (r[k]).2.length c1] w3 fun e w' => ∃ v, e = .returned v ∧ w'.ownsRow w3.heap.size 3 1 v (r[k]).2.length (icells (r[k]).2) ∧ Below w3.heap.size w3 w') := fun w3 hb3 => clone_any a1 c1 (r[k]).2 w3 hll ((hr.below HB.out).below hb3)
        generalize hsk : r[k] = sg at *
        clear hsk hr hc e0 e1
        obtain ⟨b1, ys⟩ := sg
        simp only at d0 d1 HCL hll
        have HZL : Hid (ys.length = ys.length) := rfl
        generalize hzl : ys.length = l at d0 d1 HCL hll
        have HZE := hide hzl
        clear hzl HZL
        have hk0 : (0 : Int) ≤ (k : Int) := Int.natCast_nonneg _
        have hk1 : (k : Int) < (nr : Int) := by omega
        have z1 : b < wr.heap.size := Nat.lt_of_lt_of_le z0 HB.out.size
        have HBS := hide HB.out.size
        have HC2 : Hid (Calls Tryd.prog 61 #[.slice a1 l c1] (wr.alloc (.cells #[.bool b1, .slice a1 l c1] 69)).drew fun e w5 => ∃ a9 c9 v6 w6, e = .returned (.slice a9 l c9) ∧ w5.cell? ⟨wr.heap.size, 0, none⟩ = some (.bool b1) ∧ wr.heap.size < w5.heap.size ∧ (Builtin.append_ #[30, 30] 30 #[u6, .slice (some ⟨w5.heap.size, 0, none⟩) 1 1]).run Tryd.prog (w5.alloc (.cells #[.bool b1, .slice a9 l c9] 69)) = .ok v6 w6 ∧ OwnPath w6 w.heap.size v6 ([(false, [z] ++ zs)] ++ r.take (k + 1)) ∧ Below w.heap.size w w6) := by
          have hb0 : Below wr.heap.size wr (wr.alloc (.cells #[.bool b1, .slice a1 l c1] 69)).drew := ((Below.refl _ _).alloc (Nat.le_refl _) _).drew
          have hbs := HB.out.size
          have hb0s := hb0.size
          refine (HCL.out _ hb0).mono ?_
          rintro e w5 ⟨v5, rfl, ho5, hb5⟩
          obtain ⟨a9, c9, rfl⟩ := own_shape ho5
          have hB5 : Below w.heap.size w w5 := (HB.out.trans (hb0.mono hbs)).trans (hb5.mono (by omega))
          obtain ⟨v6, w6, hr6, ho6, hb6⟩ := ((HO.out.later hb0).later hb5).snoc (b := b1) (zs := ys) (u := .slice a9 l c9) (by rw [HZE.out]; exact own_base ho5 (by omega)) rfl hB5.size hat w5.heap.size rfl
          refine ⟨a9, c9, v6, w6, rfl, ?_, ?_, hr6, ?_, hB5.trans hb6⟩
          · rw [hb5.cell (p := ⟨wr.heap.size, 0, none⟩) (by simp)]; simp [go_sem]
          · have := hb5.size; simp at this; omega
          · rw [HT.out]; exact ho6
        go_wp2_with fail
        go_region_with (first
          | (go_at_call 61; refine HC2.out.mono ?_; rintro e w5 ⟨a9, c9, v6, w6, rfl, r0, hz5, hr6, ho6, hb6⟩; have HR6 := hide hr6; have HO6 := hide ho6; have HB6 := hide hb6; clear hr6 ho6 hb6)
          | (refine kept_appendS_intro _ _ _ (.slice (some ⟨w5.heap.size, 0, none⟩) 1 1) v6 (w' := w6) (by rfl) (by rfl) (by exact HR6.out) ?_))
        all_goals go_wp2
        all_goals exact ⟨⟨k + 1, by omega, by go_num, HO6, HB6⟩, by simp [intOf]; omega⟩
      · have hkl : r.take k = r := List.take_of_length_le (by rw [HNR.out]; omega)
        rw [hkl] at HO
        go_wp2
        go_ret
        exact ⟨_, rfl, HO.out, HB.out⟩)
end
theorem prepend_any (a : Option Addr) (c : Nat) (ss : List (Bool × List Int)) (z : Int) (w : World) (hl : ss.length + sumP ss ≤ 50000) (hlc : ss.length ≤ c) (h : PthRd w a ss) :
    Calls Tryd.prog 42 #[.slice a ss.length c, .int .i64 z] w fun e w' => ∃ v, e = .returned v ∧ OwnPath w' w.heap.size v (prepP z ss) ∧ Below w.heap.size w w' := by
  cases ss with
  | nil => exact prepend_none a c z w
  | cons s r =>
    obtain ⟨b, off, rfl, hc⟩ := h.cells (by simp)
    obtain ⟨h0, a0, c0, h1, hi⟩ := hc 0 s (by simp)
    simp only [Nat.zero_mul, Nat.add_zero] at h0 h1
    by_cases hs : s.1 = false ∧ s.2.length ≤ 254
    · rw [show prepP z (s :: r) = [(false, [z] ++ s.2)] ++ r from by rw [prepP, if_pos hs]; rfl]
      rw [hs.1] at h0
      by_cases hc1 : c = 1
      · subst hc1
        have hr : r = [] := by
          cases r with
          | nil => rfl
          | cons x y => simp at hlc
        subst hr
        exact prepend_one b off _ c0 z a0 s.2 w rfl hs.2 h0 h1 hi
      · have hr : PthRd w (some ⟨b, off + 2, none⟩) r := ⟨fun _ => ⟨b, off + 2, rfl, fun i x hx => by
            have := hc (i + 1) x (by simpa using hx)
            rwa [show off + (i + 1) * 2 = off + 2 + i * 2 from by omega] at this⟩, by have := h.small; simp only [List.length_cons] at this; omega, fun x hx => h.smalls x (List.mem_cons_of_mem _ hx)⟩
        exact prepend_yes b off c _ c0 z a0 s.2 r w (by simp only [List.length_cons, sumP] at hl; omega) rfl hs.2 (by simpa using hlc) hc1 hr h0 h1 hi
    · rw [show prepP z (s :: r) = [(false, [z])] ++ (s :: r) from by rw [prepP, if_neg hs]; rfl]
      refine prepend_not b off c s.2.length c0 z s.1 a0 (s :: r) w hl (by simp) h h0 h1 ?_
      cases hk : s.1 with
      | true => rfl
      | false => rw [decide_eq_false (fun h9 => hs ⟨hk, h9⟩)]; rfl
end Go.Proofs.YthigjonagbfbbaaDoor
