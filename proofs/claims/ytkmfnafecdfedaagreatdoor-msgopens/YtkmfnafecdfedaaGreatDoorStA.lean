/- The program's stream: New, Left, Feed of a stream of which nothing was taken. -/
import Derived.Test.YtkmfnafecdfedaaGreatDoorBrd2
import Derived.Test.YtkmfnafecdfedaaGreatDoorHSm
namespace Go.Proofs.YtkmfnafecdfedaaGreatDoor
open Go.RowKit
set_option maxRecDepth 100000

/-- A stream's box: what waits, and the Note that stays. -/
structure StrAt (w : World) (S : Nat) (v : Value) (k s : Int) (d : Value) : Prop where
  c0 : w.cell? ⟨S, 0, none⟩ = some v
  c1 : w.cell? ⟨S, 1, none⟩ = some (.int .i64 k)
  c2 : w.cell? ⟨S, 2, none⟩ = some (.int .i64 s)
  c3 : w.cell? ⟨S, 3, none⟩ = some d
  fz : ∀ o, o < 4 → w.frozen? ⟨S, o, none⟩ = false
theorem StrAt.of_block {w w' : World} {S : Nat} {v d : Value} {k s : Int} (h : StrAt w S v k s d) (e : w'.heap[S]? = w.heap[S]?) : StrAt w' S v k s d :=
  ⟨by rw [World.cell?_of_block (w := w) (by exact e)]; exact h.c0, by rw [World.cell?_of_block (w := w) (by exact e)]; exact h.c1, by rw [World.cell?_of_block (w := w) (by exact e)]; exact h.c2, by rw [World.cell?_of_block (w := w) (by exact e)]; exact h.c3,
    fun o ho => by rw [World.frozen?_of_block (w := w) (by exact e)]; exact h.fz o ho⟩
set_option maxHeartbeats 400000 in
theorem snew_any (w : World) : Calls Tryz.prog 14 #[] w fun e w' => e = .returned (.pointer (some ⟨w.heap.size, 0, none⟩)) ∧ w' = w.alloc (.cells #[.slice none 0 0, .int .i64 0, .int .i64 0, .slice none 0 0] 77) := by
  go_enter Tryz.func14, Tryz.ntmps14
  go_wp2
  go_ret
  exact ⟨rfl, rfl⟩
theorem str_new (w : World) : StrAt (w.alloc (.cells #[.slice none 0 0, .int .i64 0, .int .i64 0, .slice none 0 0] 77)) w.heap.size (.slice none 0 0) 0 0 (.slice none 0 0) :=
  ⟨by simp [go_sem], by simp [go_sem], by simp [go_sem], by simp [go_sem], fun o ho => by simp [go_sem]⟩
set_option maxHeartbeats 400000 in
theorem left_nil (w : World) : Calls Tryz.prog 18 #[.pointer none] w fun e w' => e = .returned (.int .i64 0) ∧ w' = w := by
  go_enter Tryz.func18, Tryz.ntmps18
  go_wp2
  go_ret
  exact ⟨rfl, rfl⟩
set_option maxHeartbeats 400000 in
theorem left_any (w : World) (S : Nat) (a : Option Addr) (n c : Nat) (k s : Int) (d : Value) (h : StrAt w S (.slice a n c) k s d) : Calls Tryz.prog 18 #[.pointer (some ⟨S, 0, none⟩)] w fun e w' => e = .returned (.int .i64 (n : Int)) ∧ w' = w := by
  have c0 := h.c0
  clear h
  go_enter Tryz.func18, Tryz.ntmps18
  go_wp2
  go_ret
  exact ⟨rfl, rfl⟩
set_option maxHeartbeats 400000 in
theorem feed_nil (w : World) (a : Option Addr) (n c : Nat) : Calls Tryz.prog 15 #[.pointer none, .slice a n c] w fun e w' => e = .returned (.tuple #[]) ∧ w' = w := by
  go_enter Tryz.func15, Tryz.ntmps15
  go_wp2
  exact bodyPost_ret (results_none rfl _ _ _) rfl ⟨rfl, rfl⟩
/-- append of bytes that are read, and what it turns. -/
theorem app_grow {w : World} {B : Nat} {v : Value} {ys : List Nat} (zs : List Nat) (a : Option Addr) (c : Nat) (ho : w.ownsRow B 5 1 v ys.length (bcells ys)) (hB : B ≤ w.heap.size) (hl : ys.length + zs.length ≤ 500000) (h : BRd w a zs) :
    ∃ v' w', (Builtin.append_ #[22, 22] 22 #[v, .slice a zs.length c]).run Tryz.prog w = .ok v' w' ∧ w'.ownsRow B 5 1 v' (ys ++ zs).length (bcells (ys ++ zs)) ∧ w.grownBy w' v.ownBlock ∧ (v'.ownBlock = v.ownBlock ∨ v'.ownBlock = some w.heap.size) := by
  cases a with
  | none =>
    have hz : zs = [] := by
      cases zs with
      | nil => rfl
      | cons z r => obtain ⟨b, off, e, _⟩ := h.1.2 (by simp); cases e
    subst hz
    have hg : w.grownBy w v.ownBlock := ⟨rfl, rfl, rfl, Nat.le_refl _, fun _ _ _ => rfl⟩
    have ho2 := ho
    rcases ho.2 with ⟨e, h0⟩ | ⟨g, cap, cur, e, _, _, hc, _⟩
    · subst e
      exact ⟨_, w, append_nn elemU8 w c, by rw [List.append_nil]; exact ho2, hg, .inl rfl⟩
    · subst e
      exact ⟨_, w, append_nil elemU8 w _ _ cap c hc, by rw [List.append_nil]; exact ho2, hg, .inl rfl⟩
  | some ad =>
    have hc : ∀ j x, (bcells zs)[j]? = some x → w.cell? (ad.add j) = some x := fun j x hx => by
      have hj : j < zs.length := by have := (List.getElem?_eq_some_iff.1 hx).1; rwa [bcells_length] at this
      obtain ⟨b, off, e, h5⟩ := h.1.2 (by omega)
      cases e
      rw [Addr.add_mid, h5 j hj, ← hx]
      simp [bcells, hj]
    obtain ⟨v', w', hr, h2, _, h4, h5⟩ := app_more elemU8 ho hB ad zs.length c (bcells zs) (by rw [bcells_length]; omega) hc (bcells_one _) (by omega)
    exact ⟨v', w', hr, by rw [bcells_app, List.length_append]; exact h2, h4, h5⟩
theorem own_stays {F : Nat → Prop} {w w' : World} {B e size n : Nat} {v : Value} {xs : List Value} (h : w.ownsRow B e size v n xs) (hk : Keeps F w w') (hn : ∀ b, v.ownBlock = some b → ¬ F b) : w'.ownsRow B e size v n xs := by
  refine ⟨h.1, ?_⟩
  rcases h.2 with hh | ⟨g, cap, cur, e1, hg, hc, rest⟩
  · exact .inl hh
  · refine .inr ⟨g, cap, cur, e1, hg, ?_, rest⟩
    rw [hk.block g (Array.getElem?_eq_some_iff.1 hc).1 (hn g (by rw [e1]; rfl))]
    exact hc
theorem StrAt.wait {w : World} {S : Nat} {v d : Value} {k s : Int} (h : StrAt w S v k s d) (u : Value) : StrAt (w.setCell ⟨S, 0, none⟩ u) S u k s d := by
  have put : ∀ x, w.cell? ⟨S, 0, none⟩ = some x → (w.setCell ⟨S, 0, none⟩ u).cell? ⟨S, 0, none⟩ = some u := fun x hx => by
    have := World.cell?_setCells_in S [u] 0 w (fun q hq => by
      have : q = 0 := by simp at hq; omega
      subst this
      rw [Nat.add_zero, hx]; rfl) 0 (by simp)
    simpa [World.setCells] using this
  have off : ∀ p, p ≠ 0 → (w.setCell ⟨S, 0, none⟩ u).cell? ⟨S, p, none⟩ = w.cell? ⟨S, p, none⟩ := fun p hp => by
    have := World.cell?_setCells_out S [u] 0 w ⟨S, p, none⟩ (fun _ _ => by simp; omega)
    simpa [World.setCells] using this
  exact ⟨put _ h.c0, by rw [off 1 (by omega)]; exact h.c1, by rw [off 2 (by omega)]; exact h.c2, by rw [off 3 (by omega)]; exact h.c3, fun o ho => by simp; exact h.fz o ho⟩
set_option maxHeartbeats 800000 in
theorem feed_own (w : World) (S B : Nat) (v : Value) (ys zs : List Nat) (a : Option Addr) (c : Nat) (k s : Int) (d : Value) (h : StrAt w S v k s d) (ho : w.ownsRow B 5 1 v ys.length (bcells ys)) (hB : B ≤ w.heap.size) (hS : v.ownBlock ≠ some S) (hl : ys.length + zs.length ≤ 100000) (hz : BRd w a zs) :
    Calls Tryz.prog 15 #[.pointer (some ⟨S, 0, none⟩), .slice a zs.length c] w fun e w' => e = .returned (.tuple #[]) ∧ ∃ v', StrAt w' S v' k s d ∧ w'.ownsRow B 5 1 v' (ys ++ zs).length (bcells (ys ++ zs)) ∧ v'.ownBlock ≠ some S ∧ Keeps (fun b => b = S ∨ v.ownBlock = some b) w w' := by
  obtain ⟨v', w1, hr, ho1, hg, hnew⟩ := app_grow zs a c ho hB (by omega) hz
  have hSz : S < w.heap.size := World.block_lt_of_cell? w _ h.c0
  have hs1 : StrAt w1 S v k s d := h.of_block (hg.block S hSz (Ne.symm hS))
  have hne : v'.ownBlock ≠ some S := by
    rcases hnew with e | e
    · rw [e]; exact hS
    · rw [e]; intro e9; simp at e9; omega
  obtain ⟨va, vc, rfl⟩ := own_shape ho
  obtain ⟨va1, vc1, rfl⟩ := own_shape ho1
  have c0 := h.c0
  have d0 := hs1.c0
  have f0 := hs1.fz 0 (by omega)
  have hz1 : S < w1.heap.size := World.block_lt_of_cell? w1 _ d0
  have HK : Hid (Keeps (fun b => b = S ∨ (Value.slice va ys.length vc).ownBlock = some b) w (w1.setCell ⟨S, 0, none⟩ (.slice va1 (ys ++ zs).length vc1))) := ((Keeps.refl _ w).grown hg fun b hb => .inl (.inr hb)).setCell _ _ _ (.inl (.inl rfl))
  have HO : Hid ((w1.setCell ⟨S, 0, none⟩ (.slice va1 (ys ++ zs).length vc1)).ownsRow B 5 1 (.slice va1 (ys ++ zs).length vc1) (ys ++ zs).length (bcells (ys ++ zs))) := own_stays ho1 ((Keeps.refl (fun b => b = S) w1).setCell S 0 _ (.inl rfl)) fun b hb e => by subst e; exact hne hb
  have HS := hide (hs1.wait (.slice va1 (ys ++ zs).length vc1))
  have HR := hide hr
  have HNe := hide hne
  have dl : decide ((1048576 : Int) - (ys.length : Int) < (zs.length : Int)) = false := decide_eq_false (by omega)
  have hw1 : IntKind.i64.wrap ((1048576 : Int) - (ys.length : Int)) = (1048576 : Int) - (ys.length : Int) := by rw [IntKind.wrap_i64]; omega
  clear h ho hs1 hg hnew ho1 hr hne hz hS
  generalize (ys ++ zs).length = nn at *
  generalize bcells (ys ++ zs) = bb at *
  generalize zs.length = nz at *
  generalize ys.length = ny at *
  go_enter Tryz.func15, Tryz.ntmps15
  go_wp2_with ((with_reducible refine wpl_append _ _ 22 _ (.slice a nz c) _ ?_ ?_ HR.out ?_); (· rfl); (· rfl))
  exact bodyPost_end (results_none rfl _ _ _) rfl ⟨rfl, _, HS.out, HO.out, HNe.out, HK.out⟩
end Go.Proofs.YtkmfnafecdfedaaGreatDoor
