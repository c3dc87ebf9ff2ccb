/- The program's log in memory; isNone, failed, Gen, Used. -/
import Derived.Test.YtbecchoidglaeaaWalS
import Derived.Deep.QuietTactic
import Derived.BigQuiet
namespace Go.Proofs.Ytbecchoidglaeaa
open Go.RowKit
set_option maxRecDepth 100000

/-- The program's log at block B is g, over the disk at D. -/
def PLogIn (w : World) (B D : Nat) (g : Lg) : Prop := w.heap[B]? = some (.cells #[.pointer (some ⟨D, 0, none⟩), .int .i64 (g.gen : Int), .int .i64 (g.at_ : Int), .bool g.down] 79 (0, 0))
section
variable {w w' : World} {B D : Nat} {g : Lg}
theorem PLogIn.c0 (h : PLogIn w B D g) : w.cell? ⟨B, 0, none⟩ = some (.pointer (some ⟨D, 0, none⟩)) := by rw [cell_of_row w B 0 _ _ _ h]; rfl
theorem PLogIn.c1 (h : PLogIn w B D g) : w.cell? ⟨B, 1, none⟩ = some (.int .i64 (g.gen : Int)) := by rw [cell_of_row w B 1 _ _ _ h]; rfl
theorem PLogIn.c2 (h : PLogIn w B D g) : w.cell? ⟨B, 2, none⟩ = some (.int .i64 (g.at_ : Int)) := by rw [cell_of_row w B 2 _ _ _ h]; rfl
theorem PLogIn.c3 (h : PLogIn w B D g) : w.cell? ⟨B, 3, none⟩ = some (.bool g.down) := by rw [cell_of_row w B 3 _ _ _ h]; rfl
theorem PLogIn.fz (h : PLogIn w B D g) (i : Nat) : w.frozen? ⟨B, i, none⟩ = false := by
  have h' : w.heap[B]? = some (.cells #[.pointer (some ⟨D, 0, none⟩), .int .i64 (g.gen : Int), .int .i64 (g.at_ : Int), .bool g.down] 79 (0, 0)) := h
  simp [World.frozen?, h']
theorem PLogIn.lt (h : PLogIn w B D g) : B < w.heap.size := World.block_lt_of_cell? w _ h.c0
theorem PLogIn.keeps (h : PLogIn w B D g) {F : Nat → Prop} (hk : Keeps F w w') (hn : ¬ F B) : PLogIn w' B D g := by
  have hb := hk.block B h.lt hn
  unfold PLogIn at *
  rw [hb]
  exact h
theorem PLogIn.setAt (h : PLogIn w B D g) (a : Nat) : PLogIn (w.setCell ⟨B, 2, none⟩ (.int .i64 (a : Int))) B D { g with at_ := a } := heap_set_at w B 2 _ _ _ _ h
theorem PLogIn.setGen (h : PLogIn w B D g) (a : Nat) : PLogIn (w.setCell ⟨B, 1, none⟩ (.int .i64 (a : Int))) B D { g with gen := a } := heap_set_at w B 1 _ _ _ _ h
theorem PLogIn.setDown (h : PLogIn w B D g) (d : Bool) : PLogIn (w.setCell ⟨B, 3, none⟩ (.bool d)) B D { g with down := d } := heap_set_at w B 3 _ _ _ _ h
end
/-- The program's log at B over its disk at D. -/
structure PLog (w : World) (B D : Nat) (g : Lg) (s : St) (F : Nat → Prop) : Prop where
  l : PLogIn w B D g
  d : Disk w D s F
  nf : ¬ F B
theorem PLog.later {w w' : World} {B D : Nat} {g : Lg} {s : St} {F : Nat → Prop} (h : PLog w B D g s F) (hb : Below w.heap.size w w') : PLog w' B D g s F :=
  ⟨h.l.keeps (F := fun _ => False) (Keeps.of_below hb _) (fun h => h), h.d.later hb, h.nf⟩
theorem PLog.step {w w' : World} {B D : Nat} {g : Lg} {s s' : St} {F F' : Nat → Prop} (h : PLog w B D g s F) (hd : Disk w' D s' F') (hst : Step F F' w w') : PLog w' B D g s' F' :=
  ⟨h.l.keeps hst.1 h.nf, hd, fun hb => by rcases hst.2 B hb with h1 | h1; exact h.nf h1; have := h.l.lt; omega⟩
/-- A store into the log's own block. -/
theorem PLog.store {w w' : World} {B D : Nat} {g g' : Lg} {s : St} {F : Nat → Prop} (h : PLog w B D g s F) (hl : PLogIn w' B D g') (hk : Keeps (fun b => b = B) w w') : PLog w' B D g' s F :=
  ⟨hl, h.d.keeps hk (fun _ hb e => h.nf (e ▸ hb)), h.nf⟩
/-- What a call of the log turns: the disk's blocks and the log's. -/
def PStep (B : Nat) (F F' : Nat → Prop) (w w' : World) : Prop := Keeps (fun b => F b ∨ b = B) w w' ∧ ∀ b, F' b → F b ∨ w.heap.size ≤ b
theorem PStep.refl (B : Nat) (F : Nat → Prop) (w : World) : PStep B F F w w := ⟨Keeps.refl _ _, fun _ h => .inl h⟩
theorem Step.log {B : Nat} {F F' : Nat → Prop} {w w' : World} (h : Step F F' w w') : PStep B F F' w w' := ⟨h.1.mono (fun _ _ hb => .inl hb), h.2⟩
theorem PStep.trans {B : Nat} {F F1 F2 : Nat → Prop} {w w1 w2 : World} (h : PStep B F F1 w w1) (k : PStep B F1 F2 w1 w2) : PStep B F F2 w w2 := by
  have hs := h.1.size
  refine ⟨h.1.trans k.1 (fun b hb hw => ?_), fun b hb => ?_⟩
  · rcases hw with hw | hw
    · rcases h.2 b hw with h1 | h1
      · exact .inl h1
      · omega
    · exact .inr hw
  · rcases k.2 b hb with h1 | h1
    · exact h.2 b h1
    · exact .inr (by omega)
theorem PStep.own {B : Nat} {F : Nat → Prop} {w w' : World} (h : Keeps (fun b => b = B) w w') : PStep B F F w w' := ⟨h.mono (fun _ _ hb => .inr hb), fun _ h => .inl h⟩
set_option maxHeartbeats 400000 in
theorem isNone_nil (w : World) : Calls Try.prog 46 #[.pointer none] w fun e w' => e = .returned (.bool true) ∧ w' = w := by
  go_enter Try.func46, Try.ntmps46
  go_wp2
  go_ret
  exact ⟨rfl, rfl⟩
set_option maxHeartbeats 400000 in
theorem isNone_in {w : World} {B D : Nat} {g : Lg} (h : PLogIn w B D g) : Calls Try.prog 46 #[.pointer (some ⟨B, 0, none⟩)] w fun e w' => e = .returned (.bool false) ∧ w' = w := by
  have c0 := h.c0
  clear h
  go_enter Try.func46, Try.ntmps46
  go_wp2
  go_ret
  exact ⟨rfl, rfl⟩
set_option maxHeartbeats 400000 in
theorem failed_in {w : World} {B D : Nat} {g : Lg} (h : PLogIn w B D g) (e : Int) : Calls Try.prog 48 #[.pointer (some ⟨B, 0, none⟩), .int .i64 e] w fun r w' => r = .returned (.int .i64 e) ∧ w' = w.setCell ⟨B, 3, none⟩ (.bool (e == 4)) := by
  have c3 := h.c3
  have f3 := h.fz 3
  clear h
  go_enter Try.func48, Try.ntmps48
  go_wp2
  go_ret
  exact ⟨rfl, rfl⟩
set_option maxHeartbeats 400000 in
theorem gen_nil (w : World) : Calls Try.prog 23 #[.pointer none] w fun e w' => e = .returned (.int .i64 0) ∧ w' = w := by
  go_enter Try.func23, Try.ntmps23
  go_wp2_with fail
  refine (isNone_nil _).mono ?_
  rintro e w1 ⟨rfl, rfl⟩
  go_wp2
  go_ret
  exact ⟨rfl, rfl⟩
set_option maxHeartbeats 400000 in
theorem gen_in {w : World} {B D : Nat} {g : Lg} (h : PLogIn w B D g) : Calls Try.prog 23 #[.pointer (some ⟨B, 0, none⟩)] w fun e w' => e = .returned (.int .i64 (g.gen : Int)) ∧ w' = w := by
  have c1 := h.c1
  have H := hide h
  clear h
  go_enter Try.func23, Try.ntmps23
  go_wp2_with fail
  refine (isNone_in H.out).mono ?_
  rintro e w1 ⟨rfl, rfl⟩
  go_wp2
  go_ret
  exact ⟨rfl, rfl⟩
set_option maxHeartbeats 400000 in
theorem used_nil (w : World) : Calls Try.prog 25 #[.pointer none] w fun e w' => e = .returned (.int .i64 0) ∧ w' = w := by
  go_enter Try.func25, Try.ntmps25
  go_wp2_with fail
  refine (isNone_nil _).mono ?_
  rintro e w1 ⟨rfl, rfl⟩
  go_wp2
  go_ret
  exact ⟨rfl, rfl⟩
set_option maxHeartbeats 800000 in
theorem used_in {w : World} {B D : Nat} {g : Lg} {s : St} {F : Nat → Prop} (h : PLog w B D g s F) (hn : 4 ≤ s.n) (hs : s.n ≤ 1024) (hat : g.at_ ≤ s.n) : Calls Try.prog 25 #[.pointer (some ⟨B, 0, none⟩)] w fun e w' => e = .returned (.int .i64 ((g.at_ : Int) - (fromOf s.n g.gen : Int))) ∧ ∃ k, w' = w.drewN k := by
  have c0 := h.l.c0
  have c1 := h.l.c1
  have c2 := h.l.c2
  have hf := fromOf_le s.n g.gen hn
  have h1 : (fromOf s.n g.gen : Int) ≤ 1024 := by omega
  have h2 : (g.at_ : Int) ≤ 1024 := by omega
  have H := hide h
  have HN := hide (And.intro hn hs)
  clear h hf hn hs hat
  go_enter Try.func25, Try.ntmps25
  go_wp2_with fail
  refine (isNone_in H.out.l).mono ?_
  rintro e w1 ⟨rfl, rfl⟩
  go_wp2_with fail
  go_quiet ((go_at_call 34; refine Calls.quiet_of_same (rof_any (H.out.d.later (below_drewN (Below.refl _ _) _)) g.gen HN.out.1 HN.out.2)))
  have q2 : (w1.drewN nq).cell? ⟨B, 2, none⟩ = some (.int .i64 (g.at_ : Int)) := by rw [cell_drewN]; exact c2
  go_wp2
  go_ret
  exact ⟨rfl, nq, rfl⟩
end Go.Proofs.Ytbecchoidglaeaa
