/- Law 15's sample. -/
import Derived.Test.YtolpaimmmhoiiaaDdN
namespace Go.Proofs.Ytolpaimmmhoiiaa
open Go.RowKit
set_option maxRecDepth 100000

/-- A route that tells nothing but its Pref. -/
def prefR (x : Int) : Rt := ⟨0, 0, 0, ⟨0, [], 0, 0, x, [], []⟩, 0⟩
theorem atRd_pref (w : World) (x : Int) : AtRd w none none none (prefR x).att := ⟨⟨fun h => absurd h (Nat.lt_irrefl 0), Nat.zero_le _, fun s hs => absurd hs (List.not_mem_nil (a := s))⟩, fun h => absurd h (Nat.lt_irrefl 0), fun h => absurd h (Nat.lt_irrefl 0), (show (0 : Nat) < 4294967296 by decide)⟩
def attC (x : Int) : Array Value := #[.int .i64 0, .slice none 0 0, .int .u32 0, .int .i64 0, .int .i64 x, .slice none 0 0, .slice none 0 0]
theorem run_attrs (x : Int) (w : World) : (Instr.build 39 #[(4, .int .i64 x)]).run Try.prog w = .ok (.agg (attC x)) w := by kernel_rfl
theorem run_route (x : Int) (w : World) : (Instr.build 41 #[(2, .agg (attC x))]).run Try.prog w = .ok (.agg (rtC none 0 none 0 none 0 (prefR x))) w := by kernel_rfl
theorem run_two (x y : Int) (w : World) : (Instr.buildSlice 23 2 #[(0, .agg (rtC none 0 none 0 none 0 (prefR x))), (1, .agg (rtC none 0 none 0 none 0 (prefR y)))]).run Try.prog w = .ok (.slice (some ⟨w.heap.size, 0, none⟩) 2 2) (w.alloc (.cells (rtC none 0 none 0 none 0 (prefR x) ++ rtC none 0 none 0 none 0 (prefR y)) 41)) := by kernel_rfl
theorem rts_two (x y : Int) (w : World) : RtsRd (w.alloc (.cells (rtC none 0 none 0 none 0 (prefR x) ++ rtC none 0 none 0 none 0 (prefR y)) 41)) (some ⟨w.heap.size, 0, none⟩) [prefR x, prefR y] := fun _ => by
  refine ⟨_, _, rfl, fun i r hi => ⟨none, 0, none, 0, none, 0, ⟨fun j v hv => ?_, ?_⟩⟩⟩
  · rw [World.cell?_alloc_mark]
    have hj : j < 11 := by have := (Array.getElem?_eq_some_iff.1 hv).1; simpa [rtC] using this
    match i, hi with
    | 0, hi =>
      simp at hi
      subst hi
      rw [show 0 + 0 * 11 + j = j from by omega, Array.getElem?_append_left (by simpa [rtC] using hj)]
      exact hv
    | 1, hi =>
      simp at hi
      subst hi
      rw [show 0 + 1 * 11 + j = 11 + j from by omega, Array.getElem?_append_right (by simp [rtC])]
      simpa [rtC] using hv
    | k + 2, hi => simp at hi
  · match i, hi with
    | 0, hi => simp at hi; subst hi; exact atRd_pref _ _
    | 1, hi => simp at hi; subst hi; exact atRd_pref _ _
    | k + 2, hi => simp at hi
theorem fitQ_of {infos : List Inf} {all : List Rt} (hl : infos.length ≤ 100000) (hid : ∀ x ∈ infos, x.id < 4294967296) (h : ∀ (j : Nat) (r : Rt), all[j]? = some r → FineR r) : FitQ infos all :=
  ⟨hl, hid, fun j r hr => by have := (h j r hr).1; omega, fun j r hr => (h j r hr).2.1, fun j r hr => (h j r hr).2.2.1, fun j r hr => (h j r hr).2.2.2.1, fun j r hr => (h j r hr).2.2.2.2⟩
theorem infs_none (w : World) : InfsRd w none [] := fun h => absurd h (Nat.lt_irrefl 0)
theorem rts_none (w : World) : RtsRd w none [] := fun h => absurd h (Nat.lt_irrefl 0)
section
variable {P : Program} {a : Act} {w w' : World} {K : Act → World → Prop} {Q : Exit → Act → World → Prop} {dst : Option Tmp} {ty : TypeId} {pos : String} {after : Array Edge} {gd : Option (Nat × Bool)}
theorem keptA_build (xs : Array (Nat × Operand)) : Oper.wp P { dst := dst, op := .build 39 xs, type := ty, pos := pos, after := after, guard := gd } a w K Q = Kept P { dst := dst, op := .build 39 xs, type := ty, pos := pos, after := after, guard := gd } a w K Q := rfl
theorem keptR_two (xs : Array (Nat × Operand)) : Oper.wp P { dst := dst, op := .buildSlice 23 2 xs, type := ty, pos := pos, after := after, guard := gd } a w K Q = Kept P { dst := dst, op := .buildSlice 23 2 xs, type := ty, pos := pos, after := after, guard := gd } a w K Q := rfl
theorem kept_build1_intro {t : TypeId} (i : Nat) (x : Operand) (p v : Value) (hx : a.eval x = p) (hr : (Instr.build t #[(i, p)]).run P w = .ok v w) (h : K (a.put dst v) w) : Kept P { dst := dst, op := .build t #[(i, x)], type := ty, pos := pos, after := after, guard := gd } a w K Q := by
  unfold Kept Oper.wp execOp
  have e : (#[(i, x)].map fun (i, x) => (i, a.eval x)) = #[(i, p)] := by simp [hx]
  simp only [e, Sem.run_bind, hr, Result.andThen_ok, Sem.run_pure]
  exact h
theorem kept_two_intro {t : TypeId} (n i j : Nat) (x y : Operand) (p q v : Value) (hx : a.eval x = p) (hy : a.eval y = q) (hr : (Instr.buildSlice t n #[(i, p), (j, q)]).run P w = .ok v w') (h : K (a.put dst v) w') : Kept P { dst := dst, op := .buildSlice t n #[(i, x), (j, y)], type := ty, pos := pos, after := after, guard := gd } a w K Q := by
  unfold Kept Oper.wp execOp
  have e : (#[(i, x), (j, y)].map fun (i, x) => (i, a.eval x)) = #[(i, p), (j, q)] := by simp [hx, hy]
  simp only [e, Sem.run_bind, hr, Result.andThen_ok, Sem.run_pure]
  exact h
end
section
attribute [local go_sem ↓] keptR_build keptA_build keptR_two
set_option maxHeartbeats 1600000 in
theorem answersD_any (w : World) : Calls Try.prog 9 #[] w fun e w' => e = .returned (.bool true) ∧ Below w.heap.size w w' := by
  have KB : Hid (∀ W : World, Calls Try.prog 10 #[.int .i64 1, .slice none 0 0, .slice (some ⟨W.heap.size, 0, none⟩) 2 2] (W.alloc (.cells (rtC none 0 none 0 none 0 (prefR 50) ++ rtC none 0 none 0 none 0 (prefR (-1))) 41)) fun e w' => e = .returned (.tuple #[.int .i64 1, .bool true]) ∧ Below (W.heap.size + 1) (W.alloc (.cells (rtC none 0 none 0 none 0 (prefR 50) ++ rtC none 0 none 0 none 0 (prefR (-1))) 41)) w') := fun W => by
    have h := pbest_any 1 none 0 [] (some ⟨W.heap.size, 0, none⟩) 2 [prefR 50, prefR (-1)] (W.alloc (.cells (rtC none 0 none 0 none 0 (prefR 50) ++ rtC none 0 none 0 none 0 (prefR (-1))) 41)) (by simp) ⟨fitQ_of (by simp) (by simp) (fun j r hr => by
      match j, hr with
      | 0, hr => simp at hr; subst hr; simp [FineR, prefR, sumP, inF]
      | 1, hr => simp at hr; subst hr; simp [FineR, prefR, sumP, inF]
      | k + 2, hr => simp at hr), rts_two 50 (-1) W, infs_none _⟩
    have e : bestB 1 [] [prefR 50, prefR (-1)] = some 1 := by decide +kernel
    rw [e, World.size_alloc] at h
    exact h
  have KN : Hid (∀ W : World, Calls Try.prog 10 #[.int .i64 1, .slice none 0 0, .slice none 0 0] W fun e w' => e = .returned (.tuple #[.int .i64 0, .bool false]) ∧ Below W.heap.size W w') := fun W => by
    have h := pbest_any 1 none 0 [] none 0 [] W (by simp) ⟨fitQ_of (by simp) (by simp) (fun j r hr => by simp at hr), rts_none W, infs_none W⟩
    have e : bestB 1 [] [] = none := by decide +kernel
    rw [e] at h
    exact h
  go_enter Try.func9, Try.ntmps9
  go_wp2_with fail
  refine kept_build1_intro _ _ _ _ (by rfl) (run_attrs _ _) ?_
  go_wp2_with fail
  refine kept_build1_intro _ _ _ _ (by rfl) (run_route _ _) ?_
  go_wp2_with fail
  refine kept_build1_intro _ _ _ _ (by rfl) (run_attrs _ _) ?_
  go_wp2_with fail
  refine kept_build1_intro _ _ _ _ (by rfl) (run_route _ _) ?_
  go_wp2_with fail
  refine kept_two_intro _ _ _ _ _ _ _ _ (by rfl) (by rfl) (run_two _ _ _) ?_
  go_wp2_with fail
  refine (KB.out _).mono ?_
  rintro e w1 ⟨rfl, hb⟩
  have HB1 : Hid (Below w.heap.size w w1) := ((Below.refl _ _).alloc (Nat.le_refl _) _).trans (hb.mono (by omega))
  clear hb KB
  go_wp2_with fail
  refine (KN.out _).mono ?_
  rintro e w2 ⟨rfl, hb⟩
  have HB2 : Hid (Below w.heap.size w w2) := HB1.out.trans (hb.mono HB1.out.size)
  clear hb KN
  go_wp2
  go_ret
  exact ⟨rfl, HB2.out⟩
end
end Go.Proofs.Ytolpaimmmhoiiaa
