/- The parts of a message, made in any order, one behind the other. -/
import Derived.Test.YtkmfnafecdfedaaGreatDoorMgE2
import Derived.Lib.UnsafeStr
namespace Go.Proofs.YtkmfnafecdfedaaGreatDoor
open Go.RowKit
set_option maxRecDepth 100000

theorem brd_two (w : World) (n : Nat) (hn : n < 65536) : BRd (w.alloc (.cells #[.int .u8 ((n : Int) / 256), .int .u8 ((n : Int) % 256)] 5)) (some ⟨w.heap.size, 0, none⟩) [n / 256, n % 256] := by
  refine ⟨⟨by simp [maxLen], fun _ => ⟨_, 0, rfl, fun i hi => ?_⟩⟩, by simp; omega⟩
  match i, hi with
  | 0, _ => simp [go_sem]
  | 1, _ => simp [go_sem]
theorem brd_one (w : World) (k : Nat) (hk : k < 256) : BRd (w.alloc (.cells #[.int .u8 (k : Int)] 5)) (some ⟨w.heap.size, 0, none⟩) [k] := by
  refine ⟨⟨by simp [maxLen], fun _ => ⟨_, 0, rfl, fun i hi => ?_⟩⟩, by simp; omega⟩
  match i, hi with
  | 0, _ => simp [go_sem]
theorem brd_ff {w : World} {g : Nat} (h : ∀ i, i < 16 → w.cell? ⟨g, i, none⟩ = some (.int .u8 255)) : BRd w (some ⟨g, 0, none⟩) ff16 := by
  refine ⟨⟨by simp [maxLen, ff16], fun _ => ⟨g, 0, rfl, fun i hi => ?_⟩⟩, fun x hx => by have := (List.mem_replicate.1 hx).2; omega⟩
  have hi' : i < 16 := by simpa [ff16] using hi
  have h9 : ∀ i, i < 16 → ff16.getD i 0 = 255 := by decide
  rw [Nat.zero_add, h i hi']
  show some (Value.int .u8 255) = some (.int .u8 ((ff16.getD i 0 : Nat) : Int))
  rw [h9 i hi']
  rfl
section
variable {ops : Array Oper} {Q : Exit → Act → World → Prop}
def lstE (p q : Nat) : Array Bool := #[decide (1 ≤ p), decide (2 ≤ p), true, decide (1 ≤ q), true, true, decide (2 ≤ q), true, false, false, false]
set_option maxHeartbeats 1000000 in
theorem enc_region (b0 : Act) (w0 : World) (n k : Nat) (bd : List Nat) (ab : Option Addr) (cb : Nat) (hn : n < 65536) (hk : k < 256)
    (o0 : ∃ ty po af, ops[0]? = some { dst := some 20, op := .buildSlice 22 16 #[(0, .const (.int .u8 255)), (1, .const (.int .u8 255)), (2, .const (.int .u8 255)), (3, .const (.int .u8 255)), (4, .const (.int .u8 255)), (5, .const (.int .u8 255)), (6, .const (.int .u8 255)), (7, .const (.int .u8 255)), (8, .const (.int .u8 255)), (9, .const (.int .u8 255)), (10, .const (.int .u8 255)), (11, .const (.int .u8 255)), (12, .const (.int .u8 255)), (13, .const (.int .u8 255)), (14, .const (.int .u8 255)), (15, .const (.int .u8 255))], type := ty, pos := po, after := af, guard := none })
    (o1 : ∃ ty po af, ops[1]? = some { dst := some 21, op := .convert 22 22 (.tmp 20), type := ty, pos := po, after := af, guard := none })
    (o3 : ∃ ty po af, ops[3]? = some { dst := some 23, op := .call { callee := .value (.func 37), args := #[.tmp 22, .const (.int .i64 2)], argTypes := #[3, 3] }, type := ty, pos := po, after := af, guard := none })
    (o6 : ∃ ty po af, ops[6]? = some { dst := some 26, op := .call { callee := .value (.func 37), args := #[.tmp 25, .const (.int .i64 1)], argTypes := #[3, 3] }, type := ty, pos := po, after := af, guard := none })
    (o8 : ∃ ty po af, ops[8]? = some { dst := some 28, op := .buildSlice 89 4 #[(0, .tmp 21), (1, .tmp 23), (2, .tmp 26), (3, .tmp 27)], type := ty, pos := po, after := af, guard := none })
    (o9 : ∃ ty po af, ops[9]? = some { dst := some 29, op := .call { callee := .value (.func 36), args := #[.tmp 28], argTypes := #[89] }, type := ty, pos := po, after := af, guard := none })
    (o10 : ∃ ty po af, ops[10]? = some { dst := some 2, op := .assign (.tmp 29), type := ty, pos := po, after := af, guard := none })
    (r00 : Region.ready .any ops (lstE 0 0) = [0, 3]) (r10 : Region.ready .any ops (lstE 1 0) = [1, 3]) (r20 : Region.ready .any ops (lstE 2 0) = [3])
    (r01 : Region.ready .any ops (lstE 0 1) = [0, 6]) (r11 : Region.ready .any ops (lstE 1 1) = [1, 6]) (r21 : Region.ready .any ops (lstE 2 1) = [6])
    (r02 : Region.ready .any ops (lstE 0 2) = [0]) (r12 : Region.ready .any ops (lstE 1 2) = [1]) (r22 : Region.ready .any ops (lstE 2 2) = [8])
    (r8 : Region.ready .any ops ((lstE 2 2).setIfInBounds 8 true) = [9]) (r9 : Region.ready .any ops (((lstE 2 2).setIfInBounds 8 true).setIfInBounds 9 true) = [10]) (rE : Region.ready .any ops ((((lstE 2 2).setIfInBounds 8 true).setIfInBounds 9 true).setIfInBounds 10 true) = [])
    (hsz : b0.tmps.size = 30) (s22 : b0.tmps[22]? = some (.int .i64 (n : Int))) (s25 : b0.tmps[25]? = some (.int .i64 (k : Int))) (s27 : b0.tmps[27]? = some (.slice ab bd.length cb)) (hbd : BRd w0 ab bd) (hl : bd.length ≤ 50000)
    (fin : ∀ a W v, Fr [20, 21, 23, 26, 28, 29, 2] b0 a → a.tmps[2]? = some v → W.ownsRow w0.heap.size 5 1 v (ff16 ++ [n / 256, n % 256, k] ++ bd).length (bcells (ff16 ++ [n / 256, n % 256, k] ++ bd)) → Below w0.heap.size w0 W → Q .normal a W)
    (W0 : World) (hW0 : Below w0.heap.size w0 W0) :
    wpAnyH Tryz.prog .any ops Q (fun W => Below w0.heap.size w0 W) 7 (lstE 0 0) b0 W0 := by
  obtain ⟨t0, p0, f0, h0⟩ := o0
  obtain ⟨t1, p1, f1, h1⟩ := o1
  obtain ⟨t3, p3, f3, h3⟩ := o3
  obtain ⟨t6, p6, f6, h6⟩ := o6
  obtain ⟨t8, p8, f8, h8⟩ := o8
  obtain ⟨t9, p9, f9, h9⟩ := o9
  obtain ⟨t10, p10, f10, h10⟩ := o10
  let Ls := [20, 21, 23, 26, 28, 29, 2]
  have sB0 : ∀ q a W, JE Ls b0 w0 n k 0 q a W → wpOp Tryz.prog ops Q 0 (fun a' w' => JE Ls b0 w0 n k 1 q a' w') a W := fun q a W h => by
    refine op_plain h0 rfl (wp_of_run' run_ff ?_)
    have hb : Below W.heap.size W (W.alloc (.cells ffC 5)) := (Below.refl _ W).alloc (Nat.le_refl _) _
    have h2 := h.later hb
    refine ⟨h.fr.put (by decide) _, h2.bel, fun _ => ⟨W.heap.size, slot_same _ (by rw [h.fr.size, hsz]; decide), h.bel.size, by unfold World.alloc; exact Array.getElem?_push_size⟩, fun e => absurd e (by decide), fun e => ?_, fun e => ?_⟩
    · obtain ⟨x, c, e1, e2⟩ := h2.q1 e; exact ⟨x, c, by rw [slot_put _ (by decide)]; exact e1, e2⟩
    · obtain ⟨x, c, e1, e2⟩ := h2.q2 e; exact ⟨x, c, by rw [slot_put _ (by decide)]; exact e1, e2⟩
  have sB1 : ∀ q a W, JE Ls b0 w0 n k 1 q a W → wpOp Tryz.prog ops Q 1 (fun a' w' => JE Ls b0 w0 n k 2 q a' w') a W := fun q a W h => by
    obtain ⟨g, e1, e2, e3⟩ := h.p1 rfl
    have hrun : (execOp a.eval { dst := some 21, op := .convert 22 22 (.tmp 20), type := t1, pos := p1, after := f1, guard := none }).run Tryz.prog W = .ok (.value (.slice (some ⟨g, 0, none⟩) 16 16)) (W.freeze ⟨g, ffC.size, none⟩ 1) := by
      unfold execOp
      simp only [slot_eval e1, Sem.run_bind, run_mark W g ffC 16 16 e3, Result.andThen_ok, Sem.run_pure]
    have hc : ∀ x, (W.freeze ⟨g, ffC.size, none⟩ 1).cell? x = W.cell? x := fun x => cell_freeze W _ 1 x g ffC _ _ rfl e3
    refine op_plain h1 rfl (wp_of_run' hrun ?_)
    refine ⟨h.fr.put (by decide) _, Go.Lib.below_freeze h.bel e2 1, fun e => absurd e (by decide), fun _ => ⟨_, 16, slot_same _ (by rw [h.fr.size, hsz]; decide), ?_⟩, fun e => ?_, fun e => ?_⟩
    · refine brd_ff fun i hi => ?_
      rw [hc]
      unfold World.cell?
      simp only [e3]
      have h9 : ∀ i, i < 16 → ffC[i]? = some (.int .u8 255) := fun i hi => by
        rcases (by omega : i = 0 ∨ i = 1 ∨ i = 2 ∨ i = 3 ∨ i = 4 ∨ i = 5 ∨ i = 6 ∨ i = 7 ∨ i = 8 ∨ i = 9 ∨ i = 10 ∨ i = 11 ∨ i = 12 ∨ i = 13 ∨ i = 14 ∨ i = 15) with rfl | rfl | rfl | rfl | rfl | rfl | rfl | rfl | rfl | rfl | rfl | rfl | rfl | rfl | rfl | rfl <;> rfl
      rw [h9 i hi]
      rfl
    · obtain ⟨x, c, e1, e2⟩ := h.q1 e; exact ⟨x, c, by rw [slot_put _ (by decide)]; exact e1, brd_cells e2 hc⟩
    · obtain ⟨x, c, e1, e2⟩ := h.q2 e; exact ⟨x, c, by rw [slot_put _ (by decide)]; exact e1, brd_cells e2 hc⟩
  have sC0 : ∀ p a W, JE Ls b0 w0 n k p 0 a W → wpOp Tryz.prog ops Q 3 (fun a' w' => JE Ls b0 w0 n k p 1 a' w') a W := fun p a W h => by
    refine op_plain h3 rfl (call_number (.tmp 22) (.const (.int .i64 2)) (.int .i64 (n : Int)) (.int .i64 2) (slot_eval (h.fr.slot (by decide) s22)) rfl ((number_two n W hn).mono ?_))
    rintro e w' ⟨rfl, rfl⟩
    have hb : Below W.heap.size W (W.alloc (.cells #[.int .u8 ((n : Int) / 256), .int .u8 ((n : Int) % 256)] 5)) := (Below.refl _ W).alloc (Nat.le_refl _) _
    have h2 := h.later hb
    refine ⟨_, rfl, h.fr.put (by decide) _, h2.bel, fun e => ?_, fun e => ?_, fun _ => ⟨_, 2, slot_same _ (by rw [h.fr.size, hsz]; decide), brd_two W n hn⟩, fun e => absurd e (by decide)⟩
    · obtain ⟨g, e1, e2, e3⟩ := h2.p1 e; exact ⟨g, by rw [slot_put _ (by decide)]; exact e1, e2, e3⟩
    · obtain ⟨x, c, e1, e2⟩ := h2.p2 e; exact ⟨x, c, by rw [slot_put _ (by decide)]; exact e1, e2⟩
  have sC1 : ∀ p a W, JE Ls b0 w0 n k p 1 a W → wpOp Tryz.prog ops Q 6 (fun a' w' => JE Ls b0 w0 n k p 2 a' w') a W := fun p a W h => by
    refine op_plain h6 rfl (call_number (.tmp 25) (.const (.int .i64 1)) (.int .i64 (k : Int)) (.int .i64 1) (slot_eval (h.fr.slot (by decide) s25)) rfl ((number_one k W hk).mono ?_))
    rintro e w' ⟨rfl, rfl⟩
    have hb : Below W.heap.size W (W.alloc (.cells #[.int .u8 (k : Int)] 5)) := (Below.refl _ W).alloc (Nat.le_refl _) _
    have h2 := h.later hb
    refine ⟨_, rfl, h.fr.put (by decide) _, h2.bel, fun e => ?_, fun e => ?_, fun _ => ?_, fun _ => ⟨_, 1, slot_same _ (by rw [h.fr.size, hsz]; decide), brd_one W k hk⟩⟩
    · obtain ⟨g, e1, e2, e3⟩ := h2.p1 e; exact ⟨g, by rw [slot_put _ (by decide)]; exact e1, e2, e3⟩
    · obtain ⟨x, c, e1, e2⟩ := h2.p2 e; exact ⟨x, c, by rw [slot_put _ (by decide)]; exact e1, e2⟩
    · obtain ⟨x, c, e1, e2⟩ := h2.q1 (by decide); exact ⟨x, c, by rw [slot_put _ (by decide)]; exact e1, e2⟩
  have j22 : ∀ a W, JE Ls b0 w0 n k 2 2 a W → wpAnyH Tryz.prog .any ops Q (fun W => Below w0.heap.size w0 W) 3 (lstE 2 2) a W := fun a W h => by
    obtain ⟨x0, c0, u0, v0⟩ := h.p2 rfl
    obtain ⟨x1, c1, u1, v1⟩ := h.q1 (by decide)
    obtain ⟨x2, c2, u2, v2⟩ := h.q2 (by decide)
    have u3 := h.fr.slot (t := 27) (by decide) s27
    have v3 := hbd.below h.bel
    refine wpAnyH_all r22 (by simp) fun i hi => ?_
    obtain rfl : i = 8 := by simpa using hi
    refine op_plain h8 rfl (wp_of_run' (run_four a.eval (.tmp 21) (.tmp 23) (.tmp 26) (.tmp 27) x0 x1 x2 ab 16 2 1 bd.length c0 c1 c2 cb (slot_eval u0) (slot_eval u1) (slot_eval u2) (slot_eval u3)) ?_)
    have hb : Below W.heap.size W (W.alloc (.cells #[.slice x0 16 c0, .slice x1 2 c1, .slice x2 1 c2, .slice ab bd.length cb] 22)) := (Below.refl _ W).alloc (Nat.le_refl _) _
    refine ⟨h.bel.trans (hb.mono h.bel.size), ?_⟩
    refine wpAnyH_all r8 (by simp) fun i hi => ?_
    obtain rfl : i = 9 := by simpa using hi
    have hfr2 := h.fr.put (t := 28) (by decide) (.slice (some ⟨W.heap.size, 0, none⟩) 4 4)
    have hfl : flatB [(x0, c0, ff16), (x1, c1, [n / 256, n % 256]), (x2, c2, [k]), (ab, cb, bd)] = ff16 ++ [n / 256, n % 256, k] ++ bd := by simp [flatB]
    have K := obo_any W.heap.size 0 4 [(x0, c0, ff16), (x1, c1, [n / 256, n % 256]), (x2, c2, [k]), (ab, cb, bd)] (W.alloc (.cells #[.slice x0 16 c0, .slice x1 2 c1, .slice x2 1 c2, .slice ab bd.length cb] 22)) (by simp) (fun i x hx => by
      match i with
      | 0 => simp at hx; subst hx; simp [go_sem, ff16]
      | 1 => simp at hx; subst hx; simp [go_sem]
      | 2 => simp at hx; subst hx; simp [go_sem]
      | 3 => simp at hx; subst hx; simp [go_sem]
      | i + 4 => simp at hx) (fun x hx => by
        simp at hx
        rcases hx with rfl | rfl | rfl | rfl
        · exact v0.below hb
        · exact v1.below hb
        · exact v2.below hb
        · exact v3.below hb) (by rw [hfl]; simp [ff16]; omega)
    rw [hfl] at K
    refine op_plain h9 rfl (call_obo (.tmp 28) (.slice (some ⟨W.heap.size, 0, none⟩) 4 4) (slot_eval (slot_same _ (by rw [h.fr.size, hsz]; decide))) (K.mono ?_))
    rintro e w' ⟨v, rfl, ho, hb2⟩
    have hbel : Below w0.heap.size w0 w' := h.bel.trans ((hb.mono h.bel.size).trans (hb2.mono (by have := h.bel.size; simp; omega)))
    refine ⟨_, rfl, hbel, ?_⟩
    refine wpAnyH_all r9 (by simp) fun i hi => ?_
    obtain rfl : i = 10 := by simpa using hi
    have hfr3 := hfr2.put (t := 29) (by decide) v
    have s29 : ((a.put (some 28) (.slice (some ⟨W.heap.size, 0, none⟩) 4 4)).put (some 29) v).tmps[29]? = some v := slot_same _ (by rw [hfr2.size, hsz]; decide)
    have hrun : (execOp ((a.put (some 28) (.slice (some ⟨W.heap.size, 0, none⟩) 4 4)).put (some 29) v).eval { dst := some 2, op := .assign (.tmp 29), type := t10, pos := p10, after := f10, guard := none }).run Tryz.prog w' = .ok (.value v) w' := by
      unfold execOp
      simp only [slot_eval s29, Sem.run_pure]
    refine op_plain h10 rfl (wp_of_run' hrun ?_)
    refine ⟨hbel, wpAnyH_done rE ?_ _⟩
    exact fin _ _ v (hfr3.put (t := 2) (by decide) v) (slot_same _ (by rw [hfr3.size, hsz]; decide)) (own_low ho (by have := h.bel.size; simp; omega)) hbel
  have step : ∀ {m : Nat} {p q : Nat} {a : Act} {W : World} {rs : List Nat} (_ : Region.ready .any ops (lstE p q) = rs) (_ : rs ≠ []) (_ : ∀ i ∈ rs, wpOp Tryz.prog ops Q i (fun a' w' => Below w0.heap.size w0 w' ∧ wpAnyH Tryz.prog .any ops Q (fun W => Below w0.heap.size w0 W) m ((lstE p q).setIfInBounds i true) a' w') a W), wpAnyH Tryz.prog .any ops Q (fun W => Below w0.heap.size w0 W) (m + 1) (lstE p q) a W := fun hr hne h => wpAnyH_all hr hne h
  have j12 : ∀ a W, JE Ls b0 w0 n k 1 2 a W → wpAnyH Tryz.prog .any ops Q (fun W => Below w0.heap.size w0 W) 4 (lstE 1 2) a W := fun a W h => by
    refine step r12 (by simp) fun i hi => ?_
    obtain rfl : i = 1 := by simpa using hi
    exact op_weak (sB1 2 a W h) fun a' w' h' => ⟨h'.bel, j22 a' w' h'⟩
  have j21 : ∀ a W, JE Ls b0 w0 n k 2 1 a W → wpAnyH Tryz.prog .any ops Q (fun W => Below w0.heap.size w0 W) 4 (lstE 2 1) a W := fun a W h => by
    refine step r21 (by simp) fun i hi => ?_
    obtain rfl : i = 6 := by simpa using hi
    exact op_weak (sC1 2 a W h) fun a' w' h' => ⟨h'.bel, j22 a' w' h'⟩
  have j02 : ∀ a W, JE Ls b0 w0 n k 0 2 a W → wpAnyH Tryz.prog .any ops Q (fun W => Below w0.heap.size w0 W) 5 (lstE 0 2) a W := fun a W h => by
    refine step r02 (by simp) fun i hi => ?_
    obtain rfl : i = 0 := by simpa using hi
    exact op_weak (sB0 2 a W h) fun a' w' h' => ⟨h'.bel, j12 a' w' h'⟩
  have j20 : ∀ a W, JE Ls b0 w0 n k 2 0 a W → wpAnyH Tryz.prog .any ops Q (fun W => Below w0.heap.size w0 W) 5 (lstE 2 0) a W := fun a W h => by
    refine step r20 (by simp) fun i hi => ?_
    obtain rfl : i = 3 := by simpa using hi
    exact op_weak (sC0 2 a W h) fun a' w' h' => ⟨h'.bel, j21 a' w' h'⟩
  have j11 : ∀ a W, JE Ls b0 w0 n k 1 1 a W → wpAnyH Tryz.prog .any ops Q (fun W => Below w0.heap.size w0 W) 5 (lstE 1 1) a W := fun a W h => by
    refine step r11 (by simp) fun i hi => ?_
    rcases (by simpa using hi : i = 1 ∨ i = 6) with rfl | rfl
    · exact op_weak (sB1 1 a W h) fun a' w' h' => ⟨h'.bel, j21 a' w' h'⟩
    · exact op_weak (sC1 1 a W h) fun a' w' h' => ⟨h'.bel, j12 a' w' h'⟩
  have j01 : ∀ a W, JE Ls b0 w0 n k 0 1 a W → wpAnyH Tryz.prog .any ops Q (fun W => Below w0.heap.size w0 W) 6 (lstE 0 1) a W := fun a W h => by
    refine step r01 (by simp) fun i hi => ?_
    rcases (by simpa using hi : i = 0 ∨ i = 6) with rfl | rfl
    · exact op_weak (sB0 1 a W h) fun a' w' h' => ⟨h'.bel, j11 a' w' h'⟩
    · exact op_weak (sC1 0 a W h) fun a' w' h' => ⟨h'.bel, j02 a' w' h'⟩
  have j10 : ∀ a W, JE Ls b0 w0 n k 1 0 a W → wpAnyH Tryz.prog .any ops Q (fun W => Below w0.heap.size w0 W) 6 (lstE 1 0) a W := fun a W h => by
    refine step r10 (by simp) fun i hi => ?_
    rcases (by simpa using hi : i = 1 ∨ i = 3) with rfl | rfl
    · exact op_weak (sB1 0 a W h) fun a' w' h' => ⟨h'.bel, j20 a' w' h'⟩
    · exact op_weak (sC0 1 a W h) fun a' w' h' => ⟨h'.bel, j11 a' w' h'⟩
  refine step r00 (by simp) fun i hi => ?_
  have hJ : JE Ls b0 w0 n k 0 0 b0 W0 := ⟨Fr.refl _ _, hW0, fun e => absurd e (by decide), fun e => absurd e (by decide), fun e => absurd e (by decide), fun e => absurd e (by decide)⟩
  rcases (by simpa using hi : i = 0 ∨ i = 3) with rfl | rfl
  · exact op_weak (sB0 0 b0 W0 hJ) fun a' w' h' => ⟨h'.bel, j10 a' w' h'⟩
  · exact op_weak (sC0 0 b0 W0 hJ) fun a' w' h' => ⟨h'.bel, j01 a' w' h'⟩
end
end Go.Proofs.YtkmfnafecdfedaaGreatDoor
