/- The document's log: Super, bounds; a log in memory. -/
import Derived.Test.YtbecchoidglaeaaGLay
import Derived.Test.YtbecchoidglaeaaRCleanW
import Derived.Test.YtbecchoidglaeaaGLogP
namespace Go.Proofs.Ytbecchoidglaeaa
open Go.RowKit
set_option maxRecDepth 100000

set_option maxRecDepth 100000 in
set_option maxHeartbeats 800000 in
theorem super_any (g : Nat) (hg : g < 4294967296) (w : World) : Calls Try.prog 40 #[.int .i64 (g : Int)] w fun e w' =>
    ∃ b, e = .returned (.slice (some ⟨b, 0, none⟩) 64 64) ∧ Rw w' (some ⟨b, 0, none⟩) 64 (sup g) ∧ w.heap.size ≤ b ∧ Below w.heap.size w w' := by
  go_enter Try.func40, Try.ntmps40
  go_wp2_with fail
  refine (four_eq g _ hg).mono ?_
  rintro e w1 ⟨rfl, rfl⟩
  go_wp2_with fail
  refine (ref_rw (some ⟨w.heap.size, 0, none⟩) 4 4 (four g) _ (rw_new w (four g) 4 (by omega) _) (fun i _ => four_lt _ i)).mono ?_
  rintro e w2 ⟨rfl, rfl⟩
  have hc := crc_lt (four g) 4 (fun i _ => four_lt _ i)
  generalize hcv : crc (four g) 4 = cv at *
  have HCV := hide hcv
  clear hcv
  go_wp2_with fail
  refine (four_eq cv _ hc).mono ?_
  rintro e w3 ⟨rfl, rfl⟩
  obtain ⟨g3, c3, w3, hr3, ho3, hk3, hg3⟩ := run_join (m := 4) (four cv) (w.heap.size + 1) (by simp) (own_lit w (four g) 4 (by omega)) (by omega) (by omega)
  have HR3 := hide hr3
  have B3 : Hid (Below w.heap.size w w3) := ((Keeps.refl (fun b => w.heap.size ≤ b) w).alloc _ |>.trans (hk3.mono (G := fun b => w.heap.size ≤ b) (fun b _ e => by omega)) (fun _ _ h => h)).below _ (Nat.le_refl _) (fun _ h => h)
  have O3 := hide ho3
  clear hr3 ho3 hk3 hg3
  go_wp2_with ((with_reducible refine wpl_append _ _ 37 (.slice (some ⟨w.heap.size, 0, none⟩) 4 4) (.slice (some ⟨w.heap.size + 1, 0, none⟩) 4 4) _ ?_ ?_ HR3.out ?_); (· rfl); (· rfl))
  refine (fill_any (some ⟨g3, 0, none⟩) 8 c3 (cat (four g) 4 (four cv)) w3 (by omega) (rw_own O3.out (by omega))).mono ?_
  rintro e w4 ⟨b, rfl, hr4, hle4, hb4⟩
  have HR4 := hide hr4
  have HB4 := hide hb4
  have HL4 := hide hle4
  clear hr4 hb4 hle4
  go_wp2
  go_ret
  refine ⟨b, rfl, ?_, by have := B3.out.size; have := HL4.out; omega, B3.out.trans (below_le HB4.out B3.out.size)⟩
  unfold sup
  rw [HCV.out]
  exact HR4.out
set_option maxHeartbeats 400000 in
theorem bounds_any {w : World} {V : Nat} {s : St} {W P : Nat → Prop} (h : RDisk w V s W P) (g : Nat) (hn : 4 ≤ s.n) (hs : s.n ≤ 1024) : Calls Try.prog 41 #[.pointer (some ⟨V, 0, none⟩), .int .i64 (g : Int)] w fun e w' =>
    e = .returned (.tuple #[.int .i64 (fromOf s.n g : Int), .int .i64 (toOf s.n g : Int)]) ∧ w' = w := by
  obtain ⟨a, cap, c0, _⟩ := h.sectors
  have HF : Hid ((fromOf s.n g : Int) = (if g % 2 = 0 then 2 else 2 + ((s.n : Int) - 2) / 2) ∧ (toOf s.n g : Int) = (if g % 2 = 0 then 2 + ((s.n : Int) - 2) / 2 else 2 + 2 * (((s.n : Int) - 2) / 2))) := by
    show _ ∧ _
    unfold toOf fromOf half
    split <;> omega
  have hn' : (4 : Int) ≤ (s.n : Int) := by omega
  have hs' : (s.n : Int) ≤ 1024 := by omega
  clear h
  by_cases hg : g % 2 = 0
  · have e0 : (((g : Int) % 2) == 0) = true := by rw [beq_iff_eq]; omega
    have HF2 : Hid ((fromOf s.n g : Int) = 2 ∧ (toOf s.n g : Int) = 2 + ((s.n : Int) - 2) / 2) := by have := HF.out; rw [if_pos hg, if_pos hg] at this; exact this
    clear hn hs
    go_enter Try.func41, Try.ntmps41
    go_wp2
    go_ret2
    exact ⟨ret2 HF2.out.1.symm HF2.out.2.symm, rfl⟩
  · have e0 : (((g : Int) % 2) == 0) = false := by rw [beq_eq_false_iff_ne]; omega
    have HF2 : Hid ((fromOf s.n g : Int) = 2 + ((s.n : Int) - 2) / 2 ∧ (toOf s.n g : Int) = 2 + 2 * (((s.n : Int) - 2) / 2)) := by have := HF.out; rw [if_neg hg, if_neg hg] at this; exact this
    clear hn hs
    go_enter Try.func41, Try.ntmps41
    go_wp2
    go_ret2
    exact ⟨ret2 HF2.out.1.symm HF2.out.2.symm, rfl⟩
/-- The log at block B is g, over the disk at V. -/
def LogIn (w : World) (B V : Nat) (g : Lg) : Prop := w.heap[B]? = some (.cells #[.pointer (some ⟨V, 0, none⟩), .int .i64 (g.gen : Int), .int .i64 (g.at_ : Int), .bool g.down] 50 (0, 0))
section
variable {w w' : World} {B V : Nat} {g : Lg}
theorem LogIn.c0 (h : LogIn w B V g) : w.cell? ⟨B, 0, none⟩ = some (.pointer (some ⟨V, 0, none⟩)) := by rw [cell_of_row w B 0 _ _ _ h]; rfl
theorem LogIn.c1 (h : LogIn w B V g) : w.cell? ⟨B, 1, none⟩ = some (.int .i64 (g.gen : Int)) := by rw [cell_of_row w B 1 _ _ _ h]; rfl
theorem LogIn.c2 (h : LogIn w B V g) : w.cell? ⟨B, 2, none⟩ = some (.int .i64 (g.at_ : Int)) := by rw [cell_of_row w B 2 _ _ _ h]; rfl
theorem LogIn.c3 (h : LogIn w B V g) : w.cell? ⟨B, 3, none⟩ = some (.bool g.down) := by rw [cell_of_row w B 3 _ _ _ h]; rfl
theorem LogIn.fz (h : LogIn w B V g) (i : Nat) : w.frozen? ⟨B, i, none⟩ = false := by
  have h' : w.heap[B]? = some (.cells #[.pointer (some ⟨V, 0, none⟩), .int .i64 (g.gen : Int), .int .i64 (g.at_ : Int), .bool g.down] 50 (0, 0)) := h
  simp [World.frozen?, h']
theorem LogIn.lt (h : LogIn w B V g) : B < w.heap.size := World.block_lt_of_cell? w _ h.c0
theorem LogIn.keeps (h : LogIn w B V g) {F : Nat → Prop} (hk : Keeps F w w') (hn : ¬ F B) : LogIn w' B V g := by
  have hb := hk.block B h.lt hn
  unfold LogIn at *
  rw [hb]
  exact h
theorem LogIn.setAt (h : LogIn w B V g) (a : Nat) : LogIn (w.setCell ⟨B, 2, none⟩ (.int .i64 (a : Int))) B V { g with at_ := a } := heap_set_at w B 2 _ _ _ _ h
theorem LogIn.setGen (h : LogIn w B V g) (a : Nat) : LogIn (w.setCell ⟨B, 1, none⟩ (.int .i64 (a : Int))) B V { g with gen := a } := heap_set_at w B 1 _ _ _ _ h
theorem LogIn.setDown (h : LogIn w B V g) (d : Bool) : LogIn (w.setCell ⟨B, 3, none⟩ (.bool d)) B V { g with down := d } := heap_set_at w B 3 _ _ _ _ h
end
/-- The document's log at B over its disk at V. -/
structure RLog (w : World) (B V : Nat) (g : Lg) (s : St) (W P : Nat → Prop) : Prop where
  l : LogIn w B V g
  r : RDisk w V s W P
  nw : ¬ W B
  np : ¬ P B
theorem RLog.later {w w' : World} {B V : Nat} {g : Lg} {s : St} {W P : Nat → Prop} (h : RLog w B V g s W P) (hb : Below w.heap.size w w') : RLog w' B V g s W P :=
  ⟨h.l.keeps (F := fun _ => False) (Keeps.of_below hb _) (fun h => h), h.r.later hb, h.nw, h.np⟩
theorem RLog.step {w w' : World} {B V : Nat} {g : Lg} {s s' : St} {W P W' P' : Nat → Prop} (h : RLog w B V g s W P) (hd : RDisk w' V s' W' P') (hst : RStep W P W' P' w w') : RLog w' B V g s' W' P' :=
  ⟨h.l.keeps hst.1 h.nw, hd, fun hb => by rcases hst.2.1 B hb with h1 | h1; exact h.nw h1; have := h.l.lt; omega, fun hb => by rcases hst.2.2 B hb with h1 | h1; exact h.np h1; have := h.l.lt; omega⟩
/-- A store into the log's own block. -/
theorem RLog.store {w w' : World} {B V : Nat} {g g' : Lg} {s : St} {W P : Nat → Prop} (h : RLog w B V g s W P) (hl : LogIn w' B V g') (hk : Keeps (fun b => b = B) w w') : RLog w' B V g' s W P :=
  ⟨hl, h.r.keeps hk (fun _ hb e => h.nw (e ▸ hb)) (fun _ hb e => h.np (e ▸ hb)), h.nw, h.np⟩
/-- What a call of the log turns: the disk's blocks and the log's. -/
def LStep (B : Nat) (W P W' P' : Nat → Prop) (w w' : World) : Prop := Keeps (fun b => W b ∨ b = B) w w' ∧ (∀ b, W' b → W b ∨ w.heap.size ≤ b) ∧ ∀ b, P' b → P b ∨ w.heap.size ≤ b
theorem LStep.refl (B : Nat) (W P : Nat → Prop) (w : World) : LStep B W P W P w w := ⟨Keeps.refl _ _, fun _ h => .inl h, fun _ h => .inl h⟩
theorem RStep.log {B : Nat} {W P W' P' : Nat → Prop} {w w' : World} (h : RStep W P W' P' w w') : LStep B W P W' P' w w' := ⟨h.1.mono (fun _ _ hb => .inl hb), h.2.1, h.2.2⟩
theorem LStep.trans {B : Nat} {W P W1 P1 W2 P2 : Nat → Prop} {w w1 w2 : World} (h : LStep B W P W1 P1 w w1) (k : LStep B W1 P1 W2 P2 w1 w2) : LStep B W P W2 P2 w w2 := by
  have hs := h.1.size
  refine ⟨h.1.trans k.1 (fun b hb hw => ?_), fun b hb => ?_, fun b hb => ?_⟩
  · rcases hw with hw | hw
    · rcases h.2.1 b hw with h1 | h1
      · exact .inl h1
      · omega
    · exact .inr hw
  · rcases k.2.1 b hb with h1 | h1
    · exact h.2.1 b h1
    · exact .inr (by omega)
  · rcases k.2.2 b hb with h1 | h1
    · exact h.2.2 b h1
    · exact .inr (by omega)
theorem LStep.own {B : Nat} {W P : Nat → Prop} {w w' : World} (h : Keeps (fun b => b = B) w w') : LStep B W P W P w w' := ⟨h.mono (fun _ _ hb => .inr hb), fun _ h => .inl h, fun _ h => .inl h⟩
end Go.Proofs.Ytbecchoidglaeaa
