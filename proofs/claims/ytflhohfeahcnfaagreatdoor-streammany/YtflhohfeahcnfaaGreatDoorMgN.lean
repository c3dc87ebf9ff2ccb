/- 'm.Note = noteOf(int(body[0]), int(body[1]), body[2:]...)'. -/
import Derived.Test.YtflhohfeahcnfaaGreatDoorMgD3
namespace Go.Proofs.YtflhohfeahcnfaaGreatDoor
open Go.RowKit
set_option maxRecDepth 100000

/-- A Note is stored into the message's box. -/
theorem store_note {w : World} {Y : Nat} {k : Int} {c s : Int} {a : Option Addr} {n cap : Nat} (h : w.heap[Y]? = some (.cells (msgC k 0 0 (.slice none 0 0)) 40 (0, 0))) :
    ∃ W8, (Instr.storeAt 38 (.pointer (some ⟨Y, 22, none⟩)) (.agg #[.int .i64 c, .int .i64 s, .slice a n cap])).run Tryz.prog w = .ok () W8 ∧ W8.heap[Y]? = some (.cells (msgC k c s (.slice a n cap)) 40 (0, 0)) ∧ (∀ j, j ≠ Y → W8.heap[j]? = w.heap[j]?) ∧ W8.heap.size = w.heap.size ∧ Keeps (fun x => x = Y) w W8 := by
  have ht : w.there Y 22 3 := fun j hj => by
    refine ⟨?_, by simp [World.frozen?, h]⟩
    have : 22 + j < (msgC k 0 0 (.slice none 0 0)).size := by show 22 + j < 25; omega
    simp only [World.cell?, h]
    rw [Array.getElem?_eq_getElem this]
    rfl
  have hk : Keeps (fun x => x = Y) w (w.setCells Y 22 [.int .i64 c, .int .i64 s, .slice a n cap]) := (Keeps.refl _ _).setCells Y 22 _ (.inl rfl)
  have hsz : ∀ (vs : List Value) (o : Nat) (w : World), (w.setCells Y o vs).heap.size = w.heap.size := by
    intro vs
    induction vs with
    | nil => intro o w; rfl
    | cons v r ih => intro o w; rw [World.setCells, ih]; simp
  refine ⟨w.setCells Y 22 [.int .i64 c, .int .i64 s, .slice a n cap], run_storeAt_mid (P := Tryz.prog) w Y 22 38 #[.int .i64 c, .int .i64 s, .slice a n cap] ht infoN (by simp [Value.oneCell']), ?_, fun j hj => ?_, hsz _ _ _, hk⟩
  · obtain ⟨C', h2, h3⟩ := shape_set [.int .i64 c, .int .i64 s, .slice a n cap] 22 w _ h
    have hin := World.rangeAt_setCells_same w Y 22 [.int .i64 c, .int .i64 s, .slice a n cap] ht
    have hC : ∀ j, C'[j]? = (w.setCells Y 22 [.int .i64 c, .int .i64 s, .slice a n cap]).cell? ⟨Y, j, none⟩ := fun j => by simp [World.cell?, h2]
    have h0 : ∀ j, (msgC k 0 0 (.slice none 0 0))[j]? = w.cell? ⟨Y, j, none⟩ := fun j => by simp [World.cell?, h]
    have : C' = msgC k c s (.slice a n cap) := by
      apply Array.ext_getElem?
      intro j
      rw [hC]
      by_cases hj : j < 22
      · rw [World.cell?_setCells_out Y _ 22 w ⟨Y, j, none⟩ (fun _ _ => .inl hj), ← h0]
        rcases (by omega : j = 0 ∨ j = 1 ∨ j = 2 ∨ j = 3 ∨ j = 4 ∨ j = 5 ∨ j = 6 ∨ j = 7 ∨ j = 8 ∨ j = 9 ∨ j = 10 ∨ j = 11 ∨ j = 12 ∨ j = 13 ∨ j = 14 ∨ j = 15 ∨ j = 16 ∨ j = 17 ∨ j = 18 ∨ j = 19 ∨ j = 20 ∨ j = 21) with rfl | rfl | rfl | rfl | rfl | rfl | rfl | rfl | rfl | rfl | rfl | rfl | rfl | rfl | rfl | rfl | rfl | rfl | rfl | rfl | rfl | rfl <;> rfl
      · by_cases h25 : j < 25
        · rcases (by omega : j = 22 ∨ j = 23 ∨ j = 24) with rfl | rfl | rfl
          · exact hin 0 _ rfl
          · exact hin 1 _ rfl
          · exact hin 2 _ rfl
        · rw [World.cell?_setCells_out Y _ 22 w ⟨Y, j, none⟩ (fun _ _ => .inr (by show 22 + 3 ≤ j; omega)), ← h0]
          rw [Array.getElem?_eq_none (by show 25 ≤ j; omega), Array.getElem?_eq_none (by show 25 ≤ j; omega)]
    rw [h2, this]
  · by_cases hjj : j < w.heap.size
    · exact hk.block j hjj hj
    · rw [Array.getElem?_eq_none (by rw [hsz]; omega), Array.getElem?_eq_none (by omega)]
section
variable {a : Act} {w : World} {dst : Option Tmp} {ty : TypeId} {pos : String} {after : Array Edge} {K : Act → World → Prop} {Q : Exit → Act → World → Prop} {ρ : Operand → Value}
theorem run_noteof (x y z : Operand) (u v t : Value) (hf : ρ (.func 24) = .func (.func 24) #[] #[]) (hx : ρ x = u) (hy : ρ y = v) (hz : ρ z = t) :
    (execOp ρ { dst := dst, op := .call { callee := .value (.func 24), args := #[x, y, z], argTypes := #[3, 3, 22] }, type := ty, pos := pos, after := after, guard := none }).run Tryz.prog w = .ok (.enter 24 #[u, v, t]) w := by
  unfold execOp
  simp [resolve, invoke, hf, hx, hy, hz, go_sem]
theorem call_noteof (x y z : Operand) (u v t : Value) (hx : a.eval x = u) (hy : a.eval y = v) (hz : a.eval z = t) (h : Calls Tryz.prog 24 #[u, v, t] w fun e w' => ∃ r, e = .returned r ∧ K (a.put dst r) w') :
    Oper.wp Tryz.prog { dst := dst, op := .call { callee := .value (.func 24), args := #[x, y, z], argTypes := #[3, 3, 22] }, type := ty, pos := pos, after := after, guard := none } a w K Q := by
  unfold Oper.wp
  rw [run_noteof (ρ := a.eval) x y z u v t rfl hx hy hz]
  refine Calls.mono h ?_
  rintro _ w' ⟨r, rfl, hk⟩
  exact hk
end
section
variable {ops : Array Oper} {Q : Exit → Act → World → Prop} {id : Nat}
set_option maxHeartbeats 1600000 in
theorem n_region (b : Act) (w1 : World) (Y g o n c x y : Nat) (d : List Nat)
    (o0 : ∃ ty po af, ops[0]? = some { dst := some 56, op := .move (.tmp 7), type := ty, pos := po, after := af, guard := none })
    (o1 : ∃ ty po af, ops[1]? = some { dst := some 57, op := .indexAddr 22 (.tmp 56) (.const (.int .i64 0)), type := ty, pos := po, after := af, guard := none })
    (o2 : ∃ ty po af, ops[2]? = some { dst := some 58, op := .load 5 (.tmp 57), type := ty, pos := po, after := af, guard := none })
    (o3 : ∃ ty po af, ops[3]? = some { dst := some 59, op := .convert 5 3 (.tmp 58), type := ty, pos := po, after := af, guard := none })
    (o4 : ∃ ty po af, ops[4]? = some { dst := some 60, op := .move (.tmp 7), type := ty, pos := po, after := af, guard := none })
    (o5 : ∃ ty po af, ops[5]? = some { dst := some 61, op := .indexAddr 22 (.tmp 60) (.const (.int .i64 1)), type := ty, pos := po, after := af, guard := none })
    (o6 : ∃ ty po af, ops[6]? = some { dst := some 62, op := .load 5 (.tmp 61), type := ty, pos := po, after := af, guard := none })
    (o7 : ∃ ty po af, ops[7]? = some { dst := some 63, op := .convert 5 3 (.tmp 62), type := ty, pos := po, after := af, guard := none })
    (o8 : ∃ ty po af, ops[8]? = some { dst := some 64, op := .move (.tmp 7), type := ty, pos := po, after := af, guard := none })
    (o9 : ∃ ty po af, ops[9]? = some { dst := some 65, op := .slice 22 (.tmp 64) (some (.const (.int .i64 2))) none none, type := ty, pos := po, after := af, guard := none })
    (o10 : ∃ ty po af, ops[10]? = some { dst := some 66, op := .call { callee := .value (.func 24), args := #[.tmp 59, .tmp 63, .tmp 65], argTypes := #[3, 3, 22] }, type := ty, pos := po, after := af, guard := none })
    (o11 : ∃ ty po af, ops[11]? = some { dst := some 67, op := .fieldAddr 40 (.tmp 6) 3, type := ty, pos := po, after := af, guard := none })
    (o12 : ∃ ty po af, ops[12]? = some { dst := none, op := .store 38 (.tmp 67) (.tmp 66), type := ty, pos := po, after := af, guard := none })
    (hsz : ops.size = 13) (hns : Region.noSelect ops = true)
    (t0 : Region.free .any ops #[false, false, false, false, false, false, false, false, false, false, false, false, false] 0 = true ∧ (Region.ready .any ops #[false, false, false, false, false, false, false, false, false, false, false, false, false]).contains 0 = true)
    (t1 : Region.free .any ops #[true, false, false, false, false, false, false, false, false, false, false, false, false] 1 = true ∧ (Region.ready .any ops #[true, false, false, false, false, false, false, false, false, false, false, false, false]).contains 1 = true)
    (t2 : Region.free .any ops #[true, true, false, false, false, false, false, false, false, false, false, false, false] 2 = true ∧ (Region.ready .any ops #[true, true, false, false, false, false, false, false, false, false, false, false, false]).contains 2 = true)
    (t3 : Region.free .any ops #[true, true, true, false, false, false, false, false, false, false, false, false, false] 3 = true ∧ (Region.ready .any ops #[true, true, true, false, false, false, false, false, false, false, false, false, false]).contains 3 = true)
    (t4 : Region.free .any ops #[true, true, true, true, false, false, false, false, false, false, false, false, false] 4 = true ∧ (Region.ready .any ops #[true, true, true, true, false, false, false, false, false, false, false, false, false]).contains 4 = true)
    (t5 : Region.free .any ops #[true, true, true, true, true, false, false, false, false, false, false, false, false] 5 = true ∧ (Region.ready .any ops #[true, true, true, true, true, false, false, false, false, false, false, false, false]).contains 5 = true)
    (t6 : Region.free .any ops #[true, true, true, true, true, true, false, false, false, false, false, false, false] 6 = true ∧ (Region.ready .any ops #[true, true, true, true, true, true, false, false, false, false, false, false, false]).contains 6 = true)
    (t7 : Region.free .any ops #[true, true, true, true, true, true, true, false, false, false, false, false, false] 7 = true ∧ (Region.ready .any ops #[true, true, true, true, true, true, true, false, false, false, false, false, false]).contains 7 = true)
    (t8 : Region.free .any ops #[true, true, true, true, true, true, true, true, false, false, false, false, false] 8 = true ∧ (Region.ready .any ops #[true, true, true, true, true, true, true, true, false, false, false, false, false]).contains 8 = true)
    (t9 : Region.free .any ops #[true, true, true, true, true, true, true, true, true, false, false, false, false] 9 = true ∧ (Region.ready .any ops #[true, true, true, true, true, true, true, true, true, false, false, false, false]).contains 9 = true)
    (t11 : Region.free .any ops #[true, true, true, true, true, true, true, true, true, true, true, false, false] 11 = true ∧ (Region.ready .any ops #[true, true, true, true, true, true, true, true, true, true, true, false, false]).contains 11 = true)
    (r10 : Region.ready .any ops #[true, true, true, true, true, true, true, true, true, true, false, false, false] = [10]) (r12 : Region.ready .any ops #[true, true, true, true, true, true, true, true, true, true, true, true, false] = [12]) (rE : Region.ready .any ops #[true, true, true, true, true, true, true, true, true, true, true, true, true] = [])
    (hb : b.tmps.size = 75) (s7 : b.tmps[7]? = some (.slice (some ⟨g, o, none⟩) n c)) (s6 : b.tmps[6]? = some (.pointer (some ⟨Y, 0, none⟩)))
    (hn : 2 ≤ n) (hl : n ≤ 5000) (hx : x < 256) (hy : y < 256) (cx : w1.cell? ⟨g, o, none⟩ = some (.int .u8 (x : Int))) (cy : w1.cell? ⟨g, o + 1, none⟩ = some (.int .u8 (y : Int)))
    (hgY : g ≠ Y) (bY : w1.heap[Y]? = some (.cells (msgC 3 0 0 (.slice none 0 0)) 40 (0, 0)))
    (hd : d.length = n - 2) (hrd : ∀ X, Below w1.heap.size w1 X → BRd X (if c = 2 then some ⟨g, o, none⟩ else some ⟨g, o + 2, none⟩) d)
    (fin : ∀ a W8 W9 a9 c9, Fr [56, 57, 58, 59, 60, 61, 62, 63, 64, 65, 66, 67] b a → Below w1.heap.size w1 W8 → W8.ownsRow w1.heap.size 5 1 (.slice a9 (n - 2) c9) (n - 2) (bcells d) → Keeps (fun k => k = Y) W8 W9 → W9.heap[Y]? = some (.cells (msgC 3 (x : Int) (y : Int) (.slice a9 (n - 2) c9)) 40 (0, 0)) → W9.heap.size = W8.heap.size → Q .normal a W9) :
    (Code.region id ops true).wp Tryz.prog Q b w1 := by
  obtain ⟨a0, p0, e0, h0'⟩ := o0
  obtain ⟨a1, p1, e1, h1'⟩ := o1
  obtain ⟨a2, p2, e2, h2'⟩ := o2
  obtain ⟨a3, p3, e3, h3'⟩ := o3
  obtain ⟨a4, p4, e4, h4'⟩ := o4
  obtain ⟨a5, p5, e5, h5'⟩ := o5
  obtain ⟨a6, p6, e6, h6'⟩ := o6
  obtain ⟨a7, p7, e7, h7'⟩ := o7
  obtain ⟨a8, p8, e8, h8'⟩ := o8
  obtain ⟨a9, p9, e9, h9'⟩ := o9
  obtain ⟨a10, p10, e10, h10'⟩ := o10
  obtain ⟨a11, p11, e11, h11'⟩ := o11
  obtain ⟨a12, p12, e12, h12'⟩ := o12
  have zg := World.block_lt_of_cell? w1 _ cx
  simp only at zg
  have hn0 : ¬ n = 0 := by omega
  have hn1 : (1 : Int) < (n : Int) := by omega
  have hn2 : (2 : Int) ≤ (n : Int) := by omega
  refine wp_region_noPanic ?_
  refine wp_region_held (S := fun W => Keeps (fun k => k = Y) w1 W) (by kernel_rfl) ?_
  rw [hsz]
  have hdr : Keeps (fun k => k = Y) w1 { w1 with drawn := w1.drawn + 1 } := ⟨rfl, rfl, rfl, Nat.le_refl _, fun _ _ _ => rfl⟩
  have f0 : Fr [56, 57, 58, 59, 60, 61, 62, 63, 64, 65, 66, 67] b b := Fr.refl _ _
  show wpAnyH Tryz.prog .any ops (NoPanic Q) _ (12 + 1) #[false, false, false, false, false, false, false, false, false, false, false, false, false] _ _
  refine take_slot h0' rfl rfl hns t0.1 t0.2 (v := (.slice (some ⟨g, o, none⟩) n c)) (fun _ _ _ _ h => h) (fun W _ => op_move _ W _ _ _ rfl (slot_eval (f0.slot (by decide) s7))) hdr ?_
  obtain ⟨A1, hA1⟩ : ∃ Z, Z = b.put (some 56) (.slice (some ⟨g, o, none⟩) n c) := ⟨_, rfl⟩
  rw [← hA1]
  have f1 : Fr [56, 57, 58, 59, 60, 61, 62, 63, 64, 65, 66, 67] b A1 := by rw [hA1]; exact f0.put (by decide) _
  have g1_56 : A1.tmps[56]? = some (.slice (some ⟨g, o, none⟩) n c) := by rw [hA1]; exact slot_same _ (by rw [f0.size, hb]; decide)
  clear hA1
  show wpAnyH Tryz.prog .any ops (NoPanic Q) _ (11 + 1) #[true, false, false, false, false, false, false, false, false, false, false, false, false] _ _
  refine take_slot h1' rfl rfl hns t1.1 t1.2 (v := (.pointer (some ⟨g, o, none⟩))) (fun _ _ _ _ h => h) (fun W _ => by
    have q := slot_eval g1_56
    unfold execOp
    simp only [q]
    simp [go_sem, hn0]) hdr ?_
  obtain ⟨A2, hA2⟩ : ∃ Z, Z = A1.put (some 57) (.pointer (some ⟨g, o, none⟩)) := ⟨_, rfl⟩
  rw [← hA2]
  have f2 : Fr [56, 57, 58, 59, 60, 61, 62, 63, 64, 65, 66, 67] b A2 := by rw [hA2]; exact f1.put (by decide) _
  have g2_57 : A2.tmps[57]? = some (.pointer (some ⟨g, o, none⟩)) := by rw [hA2]; exact slot_same _ (by rw [f1.size, hb]; decide)
  clear hA2
  show wpAnyH Tryz.prog .any ops (NoPanic Q) _ (10 + 1) #[true, true, false, false, false, false, false, false, false, false, false, false, false] _ _
  refine take_slot h2' rfl rfl hns t2.1 t2.2 (v := (.int .u8 (x : Int))) (fun _ _ _ _ h => h) (fun W hW => by
    have q := slot_eval g2_57
    have q2 : W.cell? ⟨g, o, none⟩ = some (.int .u8 (x : Int)) := by rw [hW.cell ⟨g, o, none⟩ zg hgY]; exact cx
    unfold execOp
    simp only [q]
    simp [go_sem, q2]) hdr ?_
  obtain ⟨A3, hA3⟩ : ∃ Z, Z = A2.put (some 58) (.int .u8 (x : Int)) := ⟨_, rfl⟩
  rw [← hA3]
  have f3 : Fr [56, 57, 58, 59, 60, 61, 62, 63, 64, 65, 66, 67] b A3 := by rw [hA3]; exact f2.put (by decide) _
  have g3_58 : A3.tmps[58]? = some (.int .u8 (x : Int)) := by rw [hA3]; exact slot_same _ (by rw [f2.size, hb]; decide)
  clear hA3
  show wpAnyH Tryz.prog .any ops (NoPanic Q) _ (9 + 1) #[true, true, true, false, false, false, false, false, false, false, false, false, false] _ _
  refine take_slot h3' rfl rfl hns t3.1 t3.2 (v := (.int .i64 (x : Int))) (fun _ _ _ _ h => h) (fun W _ => by
    have q := slot_eval g3_58
    unfold execOp
    simp only [q]
    simp [go_sem]
    rw [IntKind.wrap_i64]
    omega) hdr ?_
  obtain ⟨A4, hA4⟩ : ∃ Z, Z = A3.put (some 59) (.int .i64 (x : Int)) := ⟨_, rfl⟩
  rw [← hA4]
  have f4 : Fr [56, 57, 58, 59, 60, 61, 62, 63, 64, 65, 66, 67] b A4 := by rw [hA4]; exact f3.put (by decide) _
  have g4_59 : A4.tmps[59]? = some (.int .i64 (x : Int)) := by rw [hA4]; exact slot_same _ (by rw [f3.size, hb]; decide)
  clear hA4
  show wpAnyH Tryz.prog .any ops (NoPanic Q) _ (8 + 1) #[true, true, true, true, false, false, false, false, false, false, false, false, false] _ _
  refine take_slot h4' rfl rfl hns t4.1 t4.2 (v := (.slice (some ⟨g, o, none⟩) n c)) (fun _ _ _ _ h => h) (fun W _ => op_move _ W _ _ _ rfl (slot_eval (f4.slot (by decide) s7))) hdr ?_
  obtain ⟨A5, hA5⟩ : ∃ Z, Z = A4.put (some 60) (.slice (some ⟨g, o, none⟩) n c) := ⟨_, rfl⟩
  rw [← hA5]
  have f5 : Fr [56, 57, 58, 59, 60, 61, 62, 63, 64, 65, 66, 67] b A5 := by rw [hA5]; exact f4.put (by decide) _
  have g5_59 : A5.tmps[59]? = some (.int .i64 (x : Int)) := by rw [hA5, slot_put _ (by decide)]; exact g4_59
  have g5_60 : A5.tmps[60]? = some (.slice (some ⟨g, o, none⟩) n c) := by rw [hA5]; exact slot_same _ (by rw [f4.size, hb]; decide)
  clear hA5
  show wpAnyH Tryz.prog .any ops (NoPanic Q) _ (7 + 1) #[true, true, true, true, true, false, false, false, false, false, false, false, false] _ _
  refine take_slot h5' rfl rfl hns t5.1 t5.2 (v := (.pointer (some ⟨g, o + 1, none⟩))) (fun _ _ _ _ h => h) (fun W _ => by
    have q := slot_eval g5_60
    unfold execOp
    simp only [q]
    simp [go_sem, hn1]) hdr ?_
  obtain ⟨A6, hA6⟩ : ∃ Z, Z = A5.put (some 61) (.pointer (some ⟨g, o + 1, none⟩)) := ⟨_, rfl⟩
  rw [← hA6]
  have f6 : Fr [56, 57, 58, 59, 60, 61, 62, 63, 64, 65, 66, 67] b A6 := by rw [hA6]; exact f5.put (by decide) _
  have g6_59 : A6.tmps[59]? = some (.int .i64 (x : Int)) := by rw [hA6, slot_put _ (by decide)]; exact g5_59
  have g6_61 : A6.tmps[61]? = some (.pointer (some ⟨g, o + 1, none⟩)) := by rw [hA6]; exact slot_same _ (by rw [f5.size, hb]; decide)
  clear hA6
  show wpAnyH Tryz.prog .any ops (NoPanic Q) _ (6 + 1) #[true, true, true, true, true, true, false, false, false, false, false, false, false] _ _
  refine take_slot h6' rfl rfl hns t6.1 t6.2 (v := (.int .u8 (y : Int))) (fun _ _ _ _ h => h) (fun W hW => by
    have q := slot_eval g6_61
    have q2 : W.cell? ⟨g, o + 1, none⟩ = some (.int .u8 (y : Int)) := by rw [hW.cell ⟨g, o + 1, none⟩ zg hgY]; exact cy
    unfold execOp
    simp only [q]
    simp [go_sem, q2]) hdr ?_
  obtain ⟨A7, hA7⟩ : ∃ Z, Z = A6.put (some 62) (.int .u8 (y : Int)) := ⟨_, rfl⟩
  rw [← hA7]
  have f7 : Fr [56, 57, 58, 59, 60, 61, 62, 63, 64, 65, 66, 67] b A7 := by rw [hA7]; exact f6.put (by decide) _
  have g7_59 : A7.tmps[59]? = some (.int .i64 (x : Int)) := by rw [hA7, slot_put _ (by decide)]; exact g6_59
  have g7_62 : A7.tmps[62]? = some (.int .u8 (y : Int)) := by rw [hA7]; exact slot_same _ (by rw [f6.size, hb]; decide)
  clear hA7
  show wpAnyH Tryz.prog .any ops (NoPanic Q) _ (5 + 1) #[true, true, true, true, true, true, true, false, false, false, false, false, false] _ _
  refine take_slot h7' rfl rfl hns t7.1 t7.2 (v := (.int .i64 (y : Int))) (fun _ _ _ _ h => h) (fun W _ => by
    have q := slot_eval g7_62
    unfold execOp
    simp only [q]
    simp [go_sem]
    rw [IntKind.wrap_i64]
    omega) hdr ?_
  obtain ⟨A8, hA8⟩ : ∃ Z, Z = A7.put (some 63) (.int .i64 (y : Int)) := ⟨_, rfl⟩
  rw [← hA8]
  have f8 : Fr [56, 57, 58, 59, 60, 61, 62, 63, 64, 65, 66, 67] b A8 := by rw [hA8]; exact f7.put (by decide) _
  have g8_59 : A8.tmps[59]? = some (.int .i64 (x : Int)) := by rw [hA8, slot_put _ (by decide)]; exact g7_59
  have g8_63 : A8.tmps[63]? = some (.int .i64 (y : Int)) := by rw [hA8]; exact slot_same _ (by rw [f7.size, hb]; decide)
  clear hA8
  show wpAnyH Tryz.prog .any ops (NoPanic Q) _ (4 + 1) #[true, true, true, true, true, true, true, true, false, false, false, false, false] _ _
  refine take_slot h8' rfl rfl hns t8.1 t8.2 (v := (.slice (some ⟨g, o, none⟩) n c)) (fun _ _ _ _ h => h) (fun W _ => op_move _ W _ _ _ rfl (slot_eval (f8.slot (by decide) s7))) hdr ?_
  obtain ⟨A9, hA9⟩ : ∃ Z, Z = A8.put (some 64) (.slice (some ⟨g, o, none⟩) n c) := ⟨_, rfl⟩
  rw [← hA9]
  have f9 : Fr [56, 57, 58, 59, 60, 61, 62, 63, 64, 65, 66, 67] b A9 := by rw [hA9]; exact f8.put (by decide) _
  have g9_59 : A9.tmps[59]? = some (.int .i64 (x : Int)) := by rw [hA9, slot_put _ (by decide)]; exact g8_59
  have g9_63 : A9.tmps[63]? = some (.int .i64 (y : Int)) := by rw [hA9, slot_put _ (by decide)]; exact g8_63
  have g9_64 : A9.tmps[64]? = some (.slice (some ⟨g, o, none⟩) n c) := by rw [hA9]; exact slot_same _ (by rw [f8.size, hb]; decide)
  clear hA9
  show wpAnyH Tryz.prog .any ops (NoPanic Q) _ (3 + 1) #[true, true, true, true, true, true, true, true, true, false, false, false, false] _ _
  refine take_slot h9' rfl rfl hns t9.1 t9.2 (v := (.slice (if c = 2 then some ⟨g, o, none⟩ else some ⟨g, o + 2, none⟩) (n - 2) (c - 2))) (fun _ _ _ _ h => h) (fun W _ => by
    have q := slot_eval g9_64
    unfold execOp
    simp only [q]
    by_cases hc2 : c = 2
    · simp [go_sem, hc2]
      omega
    · simp [go_sem, hc2]
      omega) hdr ?_
  obtain ⟨A10, hA10⟩ : ∃ Z, Z = A9.put (some 65) (.slice (if c = 2 then some ⟨g, o, none⟩ else some ⟨g, o + 2, none⟩) (n - 2) (c - 2)) := ⟨_, rfl⟩
  rw [← hA10]
  have f10 : Fr [56, 57, 58, 59, 60, 61, 62, 63, 64, 65, 66, 67] b A10 := by rw [hA10]; exact f9.put (by decide) _
  have g10_59 : A10.tmps[59]? = some (.int .i64 (x : Int)) := by rw [hA10, slot_put _ (by decide)]; exact g9_59
  have g10_63 : A10.tmps[63]? = some (.int .i64 (y : Int)) := by rw [hA10, slot_put _ (by decide)]; exact g9_63
  have g10_65 : A10.tmps[65]? = some (.slice (if c = 2 then some ⟨g, o, none⟩ else some ⟨g, o + 2, none⟩) (n - 2) (c - 2)) := by rw [hA10]; exact slot_same _ (by rw [f9.size, hb]; decide)
  clear hA10
  show wpAnyH Tryz.prog .any ops (NoPanic Q) _ (2 + 1) #[true, true, true, true, true, true, true, true, true, true, false, false, false] _ _
  refine wpAnyH_all r10 (by simp) fun i hi => ?_
  obtain rfl : i = 10 := by simpa using hi
  have hdb : Below w1.heap.size w1 { w1 with drawn := w1.drawn + 1 } := (Below.refl _ w1).drew
  have KN := noteof_any x y (if c = 2 then some ⟨g, o, none⟩ else some ⟨g, o + 2, none⟩) (c - 2) d { w1 with drawn := w1.drawn + 1 } (by omega) (hrd _ hdb)
  rw [hd] at KN
  refine op_plain h10' rfl (call_noteof (.tmp 59) (.tmp 63) (.tmp 65) (.int .i64 (x : Int)) (.int .i64 (y : Int)) _ (slot_eval g10_59) (slot_eval g10_63) (slot_eval g10_65) (KN.mono ?_))
  rintro e w8 ⟨u, rfl, ⟨a9, c9, rfl, ho⟩, hb8⟩
  rw [hd] at ho ⊢
  have hbw : Below w1.heap.size w1 w8 := hdb.trans hb8
  refine ⟨_, rfl, Keeps.of_below hbw _, ?_⟩
  show wpAnyH Tryz.prog .any ops (NoPanic Q) _ 2 #[true, true, true, true, true, true, true, true, true, true, true, false, false] (A10.put (some 66) (.agg #[.int .i64 (x : Int), .int .i64 (y : Int), .slice a9 (n - 2) c9])) _
  obtain ⟨A11, hA11⟩ : ∃ Z, Z = A10.put (some 66) (.agg #[.int .i64 (x : Int), .int .i64 (y : Int), .slice a9 (n - 2) c9]) := ⟨_, rfl⟩
  rw [← hA11]
  have f11 : Fr [56, 57, 58, 59, 60, 61, 62, 63, 64, 65, 66, 67] b A11 := by rw [hA11]; exact f10.put (by decide) _
  have g11_66 : A11.tmps[66]? = some (.agg #[.int .i64 (x : Int), .int .i64 (y : Int), .slice a9 (n - 2) c9]) := by rw [hA11]; exact slot_same _ (by rw [f10.size, hb]; decide)
  clear hA11
  show wpAnyH Tryz.prog .any ops (NoPanic Q) _ (1 + 1) #[true, true, true, true, true, true, true, true, true, true, true, false, false] _ _
  refine take_slot h11' rfl rfl hns t11.1 t11.2 (v := (.pointer (some ⟨Y, 22, none⟩))) (fun _ _ _ _ h => h) (fun W _ => by
    have q := slot_eval (f11.slot (by decide) s6)
    unfold execOp
    simp only [q]
    simp [go_sem]) (Keeps.of_below hbw _) ?_
  obtain ⟨A12, hA12⟩ : ∃ Z, Z = A11.put (some 67) (.pointer (some ⟨Y, 22, none⟩)) := ⟨_, rfl⟩
  rw [← hA12]
  have f12 : Fr [56, 57, 58, 59, 60, 61, 62, 63, 64, 65, 66, 67] b A12 := by rw [hA12]; exact f11.put (by decide) _
  have g12_66 : A12.tmps[66]? = some (.agg #[.int .i64 (x : Int), .int .i64 (y : Int), .slice a9 (n - 2) c9]) := by rw [hA12, slot_put _ (by decide)]; exact g11_66
  have g12_67 : A12.tmps[67]? = some (.pointer (some ⟨Y, 22, none⟩)) := by rw [hA12]; exact slot_same _ (by rw [f11.size, hb]; decide)
  clear hA12
  show wpAnyH Tryz.prog .any ops (NoPanic Q) _ (0 + 1) #[true, true, true, true, true, true, true, true, true, true, true, true, false] _ _
  obtain ⟨W9, hst, b9, _, z9, k9⟩ := store_note (w := w8) (Y := Y) (k := 3) (c := (x : Int)) (s := (y : Int)) (a := a9) (n := n - 2) (cap := c9) (by rw [hbw.block _ (Array.getElem?_eq_some_iff.1 bY).1]; exact bY)
  refine wpAnyH_all r12 (by simp) fun i hi => ?_
  obtain rfl : i = 12 := by simpa using hi
  refine op_plain h12' rfl ?_
  unfold Oper.wp execOp
  simp only [slot_eval g12_67, slot_eval g12_66, Sem.run_bind, hst, Result.andThen_ok, Sem.run_pure]
  refine ⟨(Keeps.of_below hbw _).trans k9 (fun x _ e => e), ?_⟩
  show wpAnyH Tryz.prog .any ops (NoPanic Q) _ 0 #[true, true, true, true, true, true, true, true, true, true, true, true, true] A12 _
  exact wpAnyH_done rE (NoPanic.normal (fin _ w8 W9 a9 c9 f12 hbw ho k9 b9 z9)) _
end
end Go.Proofs.YtflhohfeahcnfaaGreatDoor
