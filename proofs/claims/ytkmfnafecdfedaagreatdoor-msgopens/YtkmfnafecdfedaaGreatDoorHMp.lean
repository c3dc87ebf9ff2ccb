/- The program's readOpen: an OPEN that is right. -/
import Derived.Test.YtkmfnafecdfedaaGreatDoorHMo
namespace Go.Proofs.YtkmfnafecdfedaaGreatDoor
open Go.RowKit
set_option maxRecDepth 100000

section
variable {a : Act} {w : World} {dst : Option Tmp} {ty : TypeId} {pos : String} {after : Array Edge} {K : Act → World → Prop} {Q : Exit → Act → World → Prop} {ρ : Operand → Value}
theorem run_numof (x : Operand) (u : Value) (hf : ρ (.func 38) = .func (.func 38) #[] #[]) (hx : ρ x = u) :
    (execOp ρ { dst := dst, op := .call { callee := .value (.func 38), args := #[x], argTypes := #[22] }, type := ty, pos := pos, after := after, guard := none }).run Tryz.prog w = .ok (.enter 38 #[u]) w := by
  unfold execOp
  simp [resolve, invoke, hf, hx, go_sem]
theorem call_numof (x : Operand) (u : Value) (hx : a.eval x = u) (h : Calls Tryz.prog 38 #[u] w fun e w' => ∃ r, e = .returned r ∧ K (a.put dst r) w') :
    Oper.wp Tryz.prog { dst := dst, op := .call { callee := .value (.func 38), args := #[x], argTypes := #[22] }, type := ty, pos := pos, after := after, guard := none } a w K Q := by
  unfold Oper.wp
  rw [run_numof (ρ := a.eval) x u rfl hx]
  refine Calls.mono h ?_
  rintro _ w' ⟨r, rfl, hk⟩
  exact hk
theorem run_of_build4 {x0 x1 x2 x3 : Operand} {A : Int} {h i : Nat} {c : Cp} (h0 : ρ x0 = .int .i64 A) (h1 : ρ x1 = .int .i64 (h : Int)) (h2 : ρ x2 = .int .u32 (i : Int)) (h3 : ρ x3 = capV c) :
    (execOp ρ { dst := dst, op := .build 28 #[(0, x0), (1, x1), (2, x2), (3, x3)], type := ty, pos := pos, after := after, guard := none }).run Tryz.prog w = .ok (.value (.agg (openC A h i c))) w := by
  unfold execOp
  have e : (#[(0, x0), (1, x1), (2, x2), (3, x3)].map fun ((i, x) : Nat × Operand) => (i, ρ x)) = #[(0, .int .i64 A), (1, .int .i64 (h : Int)), (2, .int .u32 (i : Int)), (3, capV c)] := by simp [h0, h1, h2, h3]
  simp only [e, Sem.run_bind, run_build4O, Result.andThen_ok, Sem.run_pure]
theorem run_of_buildN : (execOp ρ { dst := dst, op := .build 38 #[], type := ty, pos := pos, after := after, guard := none }).run Tryz.prog w = .ok (.value (.agg #[.int .i64 0, .int .i64 0, .slice none 0 0])) w := by
  unfold execOp
  simp [go_sem]
theorem run_of_loadC {x : Operand} {g : Nat} {c : Cp} (hx : ρ x = .pointer (some ⟨g, 0, none⟩)) (h : w.rangeAt g 0 (capC c).toList) : (execOp ρ { dst := dst, op := .load 26 x, type := ty, pos := pos, after := after, guard := none }).run Tryz.prog w = .ok (.value (capV c)) w := by
  have hr := run_loadAt_mid (P := Tryz.prog) w g 0 26 (capC c).toList _ h Tryz.underlying26 rfl (show (Tryz.prog.info? 26).map (·.size) = some 9 by kernel_rfl)
  have e : Value.agg (capC c).toList.toArray = capV c := rfl
  unfold execOp
  simp only [hx, Sem.run_bind, hr, Result.andThen_ok, Sem.run_pure, e]
end
section
variable {ops : Array Oper} {Q : Exit → Act → World → Prop} {id : Nat}
set_option maxHeartbeats 1600000 in
/-- 'return api.Open{AS: as, Hold: numberOf(b[3:5]), ID: uint32(numberOf(b[5:9])), Caps: c}, api.Note{}'. -/
theorem o_region (b : Act) (w1 : World) (gO gN Y g o n c : Nat) (A : Int) (hh ii : Nat) (cc : Cp) (C0 N0 : Array Value)
    (o0 : ∃ ty po af, ops[0]? = some { dst := some 53, op := .move (.tmp 8), type := ty, pos := po, after := af, guard := none })
    (o1 : ∃ ty po af, ops[1]? = some { dst := some 54, op := .move (.tmp 0), type := ty, pos := po, after := af, guard := none })
    (o2 : ∃ ty po af, ops[2]? = some { dst := some 55, op := .slice 22 (.tmp 54) (some (.const (.int .i64 3))) (some (.const (.int .i64 5))) none, type := ty, pos := po, after := af, guard := none })
    (o3 : ∃ ty po af, ops[3]? = some { dst := some 56, op := .call { callee := .value (.func 38), args := #[.tmp 55], argTypes := #[22] }, type := ty, pos := po, after := af, guard := none })
    (o4 : ∃ ty po af, ops[4]? = some { dst := some 57, op := .move (.tmp 0), type := ty, pos := po, after := af, guard := none })
    (o5 : ∃ ty po af, ops[5]? = some { dst := some 58, op := .slice 22 (.tmp 57) (some (.const (.int .i64 5))) (some (.const (.int .i64 9))) none, type := ty, pos := po, after := af, guard := none })
    (o6 : ∃ ty po af, ops[6]? = some { dst := some 59, op := .call { callee := .value (.func 38), args := #[.tmp 58], argTypes := #[22] }, type := ty, pos := po, after := af, guard := none })
    (o7 : ∃ ty po af, ops[7]? = some { dst := some 60, op := .convert 3 24 (.tmp 59), type := ty, pos := po, after := af, guard := none })
    (o8 : ∃ ty po af, ops[8]? = some { dst := some 61, op := .load 26 (.tmp 7), type := ty, pos := po, after := af, guard := none })
    (o9 : ∃ ty po af, ops[9]? = some { dst := some 62, op := .build 28 #[(0, .tmp 53), (1, .tmp 56), (2, .tmp 60), (3, .tmp 61)], type := ty, pos := po, after := af, guard := none })
    (o10 : ∃ ty po af, ops[10]? = some { dst := some 63, op := .build 38 #[], type := ty, pos := po, after := af, guard := none })
    (o11 : ∃ ty po af, ops[11]? = some { dst := none, op := .store 28 (.tmp 2) (.tmp 62), type := ty, pos := po, after := af, guard := none })
    (o12 : ∃ ty po af, ops[12]? = some { dst := none, op := .store 38 (.tmp 3) (.tmp 63), type := ty, pos := po, after := af, guard := none })
    (hsz : ops.size = 13) (hns : Region.noSelect ops = true)
    (t0 : Region.free .any ops #[false, false, false, false, false, false, false, false, false, false, false, false, false] 0 = true ∧ (Region.ready .any ops #[false, false, false, false, false, false, false, false, false, false, false, false, false]).contains 0 = true)
    (t1 : Region.free .any ops #[true, false, false, false, false, false, false, false, false, false, false, false, false] 1 = true ∧ (Region.ready .any ops #[true, false, false, false, false, false, false, false, false, false, false, false, false]).contains 1 = true)
    (t2 : Region.free .any ops #[true, true, false, false, false, false, false, false, false, false, false, false, false] 2 = true ∧ (Region.ready .any ops #[true, true, false, false, false, false, false, false, false, false, false, false, false]).contains 2 = true)
    (t4 : Region.free .any ops #[true, true, true, false, false, false, false, false, false, false, false, false, false] 4 = true ∧ (Region.ready .any ops #[true, true, true, false, false, false, false, false, false, false, false, false, false]).contains 4 = true)
    (t5 : Region.free .any ops #[true, true, true, false, true, false, false, false, false, false, false, false, false] 5 = true ∧ (Region.ready .any ops #[true, true, true, false, true, false, false, false, false, false, false, false, false]).contains 5 = true)
    (t8 : Region.free .any ops #[true, true, true, false, true, true, false, false, false, false, false, false, false] 8 = true ∧ (Region.ready .any ops #[true, true, true, false, true, true, false, false, false, false, false, false, false]).contains 8 = true)
    (t10 : Region.free .any ops #[true, true, true, false, true, true, false, false, true, false, false, false, false] 10 = true ∧ (Region.ready .any ops #[true, true, true, false, true, true, false, false, true, false, false, false, false]).contains 10 = true)
    (t7 : Region.free .any ops #[true, true, true, true, true, true, true, false, true, false, true, false, false] 7 = true ∧ (Region.ready .any ops #[true, true, true, true, true, true, true, false, true, false, true, false, false]).contains 7 = true)
    (t9 : Region.free .any ops #[true, true, true, true, true, true, true, true, true, false, true, false, false] 9 = true ∧ (Region.ready .any ops #[true, true, true, true, true, true, true, true, true, false, true, false, false]).contains 9 = true)
    (r3 : Region.ready .any ops #[true, true, true, false, true, true, false, false, true, false, true, false, false] = [3]) (r6 : Region.ready .any ops #[true, true, true, true, true, true, false, false, true, false, true, false, false] = [6])
    (r11 : Region.ready .any ops #[true, true, true, true, true, true, true, true, true, true, true, false, false] = [11]) (r12 : Region.ready .any ops #[true, true, true, true, true, true, true, true, true, true, true, true, false] = [12]) (rE : Region.ready .any ops #[true, true, true, true, true, true, true, true, true, true, true, true, true] = [])
    (hb : b.tmps.size = 64) (s0 : b.tmps[0]? = some (.slice (some ⟨g, o, none⟩) n c)) (s8 : b.tmps[8]? = some (.int .i64 A)) (s7 : b.tmps[7]? = some (.pointer (some ⟨Y, 0, none⟩))) (s2 : b.tmps[2]? = some (.pointer (some ⟨gO, 0, none⟩))) (s3 : b.tmps[3]? = some (.pointer (some ⟨gN, 0, none⟩)))
    (hn : 10 ≤ n) (hl : n ≤ 5000) (hc : n ≤ c) (hid : ii < 4294967296)
    (bO : w1.heap[gO]? = some (.cells C0 28 (0, 0))) (bN : w1.heap[gN]? = some (.cells N0 38 (0, 0))) (hne : gN ≠ gO) (hO : C0.size = 12) (hN : N0.size = 3)
    (bY : w1.heap[Y]? = some (.cells (capC cc) 26 (0, 0))) (hY : Y ≠ gO ∧ Y ≠ gN)
    (k3 : ∀ X, Keeps (fun k => k = gO ∨ k = gN) w1 X → Calls Tryz.prog 38 #[.slice (some ⟨g, o + 3, none⟩) 2 (c - 3)] X fun e w' => e = .returned (.int .i64 (hh : Int)) ∧ w' = X)
    (k6 : ∀ X, Keeps (fun k => k = gO ∨ k = gN) w1 X → Calls Tryz.prog 38 #[.slice (some ⟨g, o + 5, none⟩) 4 (c - 5)] X fun e w' => e = .returned (.int .i64 (ii : Int)) ∧ w' = X)
    (fin : ∀ a, a.tmps[2]? = some (.pointer (some ⟨gO, 0, none⟩)) → a.tmps[3]? = some (.pointer (some ⟨gN, 0, none⟩)) → a.defers = b.defers → Q .normal a ((({ w1 with drawn := w1.drawn + 1 } : World).setCells gO 0 (openC A hh ii cc).toList).setCells gN 0 (#[.int .i64 0, .int .i64 0, .slice none 0 0] : Array Value).toList)) :
    (Code.region id ops true).wp Tryz.prog Q b w1 := by
  obtain ⟨a0, p0, e0, h0'⟩ := o0
  obtain ⟨a1, p1, e1, h1'⟩ := o1
  obtain ⟨a2, p2, e2, h2'⟩ := o2
  obtain ⟨a3, p3, e3, h3'⟩ := o3
  obtain ⟨a4, p4, e4, h4'⟩ := o4
  obtain ⟨a5, p5, e5, h5'⟩ := o5
  obtain ⟨a6, p6, e6, h6'⟩ := o6
  obtain ⟨a7, p7, e7, h7'⟩ := o7
  obtain ⟨a8, p8, e8, h8'⟩ := o8
  obtain ⟨a9, p9, e9, h9'⟩ := o9
  obtain ⟨a10, p10, e10, h10'⟩ := o10
  obtain ⟨a11, p11, e11, h11'⟩ := o11
  obtain ⟨a12, p12, e12, h12'⟩ := o12
  have zY := (Array.getElem?_eq_some_iff.1 bY).1
  have hc3 : ¬ c = 3 := by omega
  have hc5 : ¬ c = 5 := by omega
  have hc9 : (9 : Int) ≤ (c : Int) := by omega
  have hc5i : (5 : Int) ≤ (c : Int) := by omega
  refine wp_region_noPanic ?_
  refine wp_region_held (S := fun W => Keeps (fun k => k = gO ∨ k = gN) w1 W) (by kernel_rfl) ?_
  rw [hsz]
  have hdr : Keeps (fun k => k = gO ∨ k = gN) w1 { w1 with drawn := w1.drawn + 1 } := ⟨rfl, rfl, rfl, Nat.le_refl _, fun _ _ _ => rfl⟩
  have f0 : Fr [53, 54, 55, 57, 58, 61, 63, 56, 59, 60, 62] b b := Fr.refl _ _
  show wpAnyH Tryz.prog .any ops (NoPanic Q) _ (12 + 1) #[false, false, false, false, false, false, false, false, false, false, false, false, false] _ _
  refine take_slot h0' rfl rfl hns t0.1 t0.2 (v := (.int .i64 A)) (fun _ _ _ _ h => h) (fun W _ => op_move _ W _ _ _ rfl (slot_eval (f0.slot (by decide) s8))) hdr ?_
  obtain ⟨A1, hA1⟩ : ∃ Z, Z = b.put (some 53) (.int .i64 A) := ⟨_, rfl⟩
  rw [← hA1]
  have f1 : Fr [53, 54, 55, 57, 58, 61, 63, 56, 59, 60, 62] b A1 := by rw [hA1]; exact f0.put (by decide) _
  have g1_53 : A1.tmps[53]? = some (.int .i64 A) := by rw [hA1]; exact slot_same _ (by rw [f0.size, hb]; decide)
  clear hA1
  show wpAnyH Tryz.prog .any ops (NoPanic Q) _ (11 + 1) #[true, false, false, false, false, false, false, false, false, false, false, false, false] _ _
  refine take_slot h1' rfl rfl hns t1.1 t1.2 (v := (.slice (some ⟨g, o, none⟩) n c)) (fun _ _ _ _ h => h) (fun W _ => op_move _ W _ _ _ rfl (slot_eval (f1.slot (by decide) s0))) hdr ?_
  obtain ⟨A2, hA2⟩ : ∃ Z, Z = A1.put (some 54) (.slice (some ⟨g, o, none⟩) n c) := ⟨_, rfl⟩
  rw [← hA2]
  have f2 : Fr [53, 54, 55, 57, 58, 61, 63, 56, 59, 60, 62] b A2 := by rw [hA2]; exact f1.put (by decide) _
  have g2_53 : A2.tmps[53]? = some (.int .i64 A) := by rw [hA2, slot_put _ (by decide)]; exact g1_53
  have g2_54 : A2.tmps[54]? = some (.slice (some ⟨g, o, none⟩) n c) := by rw [hA2]; exact slot_same _ (by rw [f1.size, hb]; decide)
  clear hA2
  show wpAnyH Tryz.prog .any ops (NoPanic Q) _ (10 + 1) #[true, true, false, false, false, false, false, false, false, false, false, false, false] _ _
  refine take_slot h2' rfl rfl hns t2.1 t2.2 (v := (.slice (some ⟨g, o + 3, none⟩) 2 (c - 3))) (fun _ _ _ _ h => h) (fun W _ => by
    have q := slot_eval g2_54
    unfold execOp
    simp only [q]
    simp [go_sem, hc5i, hc3]) hdr ?_
  obtain ⟨A3, hA3⟩ : ∃ Z, Z = A2.put (some 55) (.slice (some ⟨g, o + 3, none⟩) 2 (c - 3)) := ⟨_, rfl⟩
  rw [← hA3]
  have f3 : Fr [53, 54, 55, 57, 58, 61, 63, 56, 59, 60, 62] b A3 := by rw [hA3]; exact f2.put (by decide) _
  have g3_53 : A3.tmps[53]? = some (.int .i64 A) := by rw [hA3, slot_put _ (by decide)]; exact g2_53
  have g3_54 : A3.tmps[54]? = some (.slice (some ⟨g, o, none⟩) n c) := by rw [hA3, slot_put _ (by decide)]; exact g2_54
  have g3_55 : A3.tmps[55]? = some (.slice (some ⟨g, o + 3, none⟩) 2 (c - 3)) := by rw [hA3]; exact slot_same _ (by rw [f2.size, hb]; decide)
  clear hA3
  show wpAnyH Tryz.prog .any ops (NoPanic Q) _ (9 + 1) #[true, true, true, false, false, false, false, false, false, false, false, false, false] _ _
  refine take_slot h4' rfl rfl hns t4.1 t4.2 (v := (.slice (some ⟨g, o, none⟩) n c)) (fun _ _ _ _ h => h) (fun W _ => op_move _ W _ _ _ rfl (slot_eval (f3.slot (by decide) s0))) hdr ?_
  obtain ⟨A4, hA4⟩ : ∃ Z, Z = A3.put (some 57) (.slice (some ⟨g, o, none⟩) n c) := ⟨_, rfl⟩
  rw [← hA4]
  have f4 : Fr [53, 54, 55, 57, 58, 61, 63, 56, 59, 60, 62] b A4 := by rw [hA4]; exact f3.put (by decide) _
  have g4_53 : A4.tmps[53]? = some (.int .i64 A) := by rw [hA4, slot_put _ (by decide)]; exact g3_53
  have g4_54 : A4.tmps[54]? = some (.slice (some ⟨g, o, none⟩) n c) := by rw [hA4, slot_put _ (by decide)]; exact g3_54
  have g4_55 : A4.tmps[55]? = some (.slice (some ⟨g, o + 3, none⟩) 2 (c - 3)) := by rw [hA4, slot_put _ (by decide)]; exact g3_55
  have g4_57 : A4.tmps[57]? = some (.slice (some ⟨g, o, none⟩) n c) := by rw [hA4]; exact slot_same _ (by rw [f3.size, hb]; decide)
  clear hA4
  show wpAnyH Tryz.prog .any ops (NoPanic Q) _ (8 + 1) #[true, true, true, false, true, false, false, false, false, false, false, false, false] _ _
  refine take_slot h5' rfl rfl hns t5.1 t5.2 (v := (.slice (some ⟨g, o + 5, none⟩) 4 (c - 5))) (fun _ _ _ _ h => h) (fun W _ => by
    have q := slot_eval g4_57
    unfold execOp
    simp only [q]
    simp [go_sem, hc9, hc5]) hdr ?_
  obtain ⟨A5, hA5⟩ : ∃ Z, Z = A4.put (some 58) (.slice (some ⟨g, o + 5, none⟩) 4 (c - 5)) := ⟨_, rfl⟩
  rw [← hA5]
  have f5 : Fr [53, 54, 55, 57, 58, 61, 63, 56, 59, 60, 62] b A5 := by rw [hA5]; exact f4.put (by decide) _
  have g5_53 : A5.tmps[53]? = some (.int .i64 A) := by rw [hA5, slot_put _ (by decide)]; exact g4_53
  have g5_54 : A5.tmps[54]? = some (.slice (some ⟨g, o, none⟩) n c) := by rw [hA5, slot_put _ (by decide)]; exact g4_54
  have g5_55 : A5.tmps[55]? = some (.slice (some ⟨g, o + 3, none⟩) 2 (c - 3)) := by rw [hA5, slot_put _ (by decide)]; exact g4_55
  have g5_57 : A5.tmps[57]? = some (.slice (some ⟨g, o, none⟩) n c) := by rw [hA5, slot_put _ (by decide)]; exact g4_57
  have g5_58 : A5.tmps[58]? = some (.slice (some ⟨g, o + 5, none⟩) 4 (c - 5)) := by rw [hA5]; exact slot_same _ (by rw [f4.size, hb]; decide)
  clear hA5
  show wpAnyH Tryz.prog .any ops (NoPanic Q) _ (7 + 1) #[true, true, true, false, true, true, false, false, false, false, false, false, false] _ _
  refine take_slot h8' rfl rfl hns t8.1 t8.2 (v := (capV cc)) (fun _ _ _ _ h => h) (fun W hW => run_of_loadC (g := Y) (slot_eval (f5.slot (by decide) s7)) (range_of (by rw [hW.block _ zY (by have := hY.1; have := hY.2; omega)]; exact bY))) hdr ?_
  obtain ⟨A6, hA6⟩ : ∃ Z, Z = A5.put (some 61) (capV cc) := ⟨_, rfl⟩
  rw [← hA6]
  have f6 : Fr [53, 54, 55, 57, 58, 61, 63, 56, 59, 60, 62] b A6 := by rw [hA6]; exact f5.put (by decide) _
  have g6_53 : A6.tmps[53]? = some (.int .i64 A) := by rw [hA6, slot_put _ (by decide)]; exact g5_53
  have g6_54 : A6.tmps[54]? = some (.slice (some ⟨g, o, none⟩) n c) := by rw [hA6, slot_put _ (by decide)]; exact g5_54
  have g6_55 : A6.tmps[55]? = some (.slice (some ⟨g, o + 3, none⟩) 2 (c - 3)) := by rw [hA6, slot_put _ (by decide)]; exact g5_55
  have g6_57 : A6.tmps[57]? = some (.slice (some ⟨g, o, none⟩) n c) := by rw [hA6, slot_put _ (by decide)]; exact g5_57
  have g6_58 : A6.tmps[58]? = some (.slice (some ⟨g, o + 5, none⟩) 4 (c - 5)) := by rw [hA6, slot_put _ (by decide)]; exact g5_58
  have g6_61 : A6.tmps[61]? = some (capV cc) := by rw [hA6]; exact slot_same _ (by rw [f5.size, hb]; decide)
  clear hA6
  show wpAnyH Tryz.prog .any ops (NoPanic Q) _ (6 + 1) #[true, true, true, false, true, true, false, false, true, false, false, false, false] _ _
  refine take_slot h10' rfl rfl hns t10.1 t10.2 (v := (.agg #[.int .i64 0, .int .i64 0, .slice none 0 0])) (fun _ _ _ _ h => h) (fun W _ => run_of_buildN) hdr ?_
  obtain ⟨A7, hA7⟩ : ∃ Z, Z = A6.put (some 63) (.agg #[.int .i64 0, .int .i64 0, .slice none 0 0]) := ⟨_, rfl⟩
  rw [← hA7]
  have f7 : Fr [53, 54, 55, 57, 58, 61, 63, 56, 59, 60, 62] b A7 := by rw [hA7]; exact f6.put (by decide) _
  have g7_53 : A7.tmps[53]? = some (.int .i64 A) := by rw [hA7, slot_put _ (by decide)]; exact g6_53
  have g7_54 : A7.tmps[54]? = some (.slice (some ⟨g, o, none⟩) n c) := by rw [hA7, slot_put _ (by decide)]; exact g6_54
  have g7_55 : A7.tmps[55]? = some (.slice (some ⟨g, o + 3, none⟩) 2 (c - 3)) := by rw [hA7, slot_put _ (by decide)]; exact g6_55
  have g7_57 : A7.tmps[57]? = some (.slice (some ⟨g, o, none⟩) n c) := by rw [hA7, slot_put _ (by decide)]; exact g6_57
  have g7_58 : A7.tmps[58]? = some (.slice (some ⟨g, o + 5, none⟩) 4 (c - 5)) := by rw [hA7, slot_put _ (by decide)]; exact g6_58
  have g7_61 : A7.tmps[61]? = some (capV cc) := by rw [hA7, slot_put _ (by decide)]; exact g6_61
  have g7_63 : A7.tmps[63]? = some (.agg #[.int .i64 0, .int .i64 0, .slice none 0 0]) := by rw [hA7]; exact slot_same _ (by rw [f6.size, hb]; decide)
  clear hA7
  show wpAnyH Tryz.prog .any ops (NoPanic Q) _ (5 + 1) #[true, true, true, false, true, true, false, false, true, false, true, false, false] _ _
  refine wpAnyH_all r3 (by simp) fun i hi => ?_
  obtain rfl : i = 3 := by simpa using hi
  refine op_plain h3' rfl (call_numof (.tmp 55) (.slice (some ⟨g, o + 3, none⟩) 2 (c - 3)) (slot_eval g7_55) ((k3 _ hdr).mono ?_))
  rintro e w' ⟨rfl, rfl⟩
  refine ⟨_, rfl, hdr, ?_⟩
  show wpAnyH Tryz.prog .any ops (NoPanic Q) _ 5 #[true, true, true, true, true, true, false, false, true, false, true, false, false] (A7.put (some 56) (.int .i64 (hh : Int))) _
  obtain ⟨A8, hA8⟩ : ∃ Z, Z = A7.put (some 56) (.int .i64 (hh : Int)) := ⟨_, rfl⟩
  rw [← hA8]
  have f8 : Fr [53, 54, 55, 57, 58, 61, 63, 56, 59, 60, 62] b A8 := by rw [hA8]; exact f7.put (by decide) _
  have g8_53 : A8.tmps[53]? = some (.int .i64 A) := by rw [hA8, slot_put _ (by decide)]; exact g7_53
  have g8_54 : A8.tmps[54]? = some (.slice (some ⟨g, o, none⟩) n c) := by rw [hA8, slot_put _ (by decide)]; exact g7_54
  have g8_55 : A8.tmps[55]? = some (.slice (some ⟨g, o + 3, none⟩) 2 (c - 3)) := by rw [hA8, slot_put _ (by decide)]; exact g7_55
  have g8_57 : A8.tmps[57]? = some (.slice (some ⟨g, o, none⟩) n c) := by rw [hA8, slot_put _ (by decide)]; exact g7_57
  have g8_58 : A8.tmps[58]? = some (.slice (some ⟨g, o + 5, none⟩) 4 (c - 5)) := by rw [hA8, slot_put _ (by decide)]; exact g7_58
  have g8_61 : A8.tmps[61]? = some (capV cc) := by rw [hA8, slot_put _ (by decide)]; exact g7_61
  have g8_63 : A8.tmps[63]? = some (.agg #[.int .i64 0, .int .i64 0, .slice none 0 0]) := by rw [hA8, slot_put _ (by decide)]; exact g7_63
  have g8_56 : A8.tmps[56]? = some (.int .i64 (hh : Int)) := by rw [hA8]; exact slot_same _ (by rw [f7.size, hb]; decide)
  clear hA8
  show wpAnyH Tryz.prog .any ops (NoPanic Q) _ (4 + 1) #[true, true, true, true, true, true, false, false, true, false, true, false, false] _ _
  refine wpAnyH_all r6 (by simp) fun i hi => ?_
  obtain rfl : i = 6 := by simpa using hi
  refine op_plain h6' rfl (call_numof (.tmp 58) (.slice (some ⟨g, o + 5, none⟩) 4 (c - 5)) (slot_eval g8_58) ((k6 _ hdr).mono ?_))
  rintro e w' ⟨rfl, rfl⟩
  refine ⟨_, rfl, hdr, ?_⟩
  show wpAnyH Tryz.prog .any ops (NoPanic Q) _ 4 #[true, true, true, true, true, true, true, false, true, false, true, false, false] (A8.put (some 59) (.int .i64 (ii : Int))) _
  obtain ⟨A9, hA9⟩ : ∃ Z, Z = A8.put (some 59) (.int .i64 (ii : Int)) := ⟨_, rfl⟩
  rw [← hA9]
  have f9 : Fr [53, 54, 55, 57, 58, 61, 63, 56, 59, 60, 62] b A9 := by rw [hA9]; exact f8.put (by decide) _
  have g9_53 : A9.tmps[53]? = some (.int .i64 A) := by rw [hA9, slot_put _ (by decide)]; exact g8_53
  have g9_54 : A9.tmps[54]? = some (.slice (some ⟨g, o, none⟩) n c) := by rw [hA9, slot_put _ (by decide)]; exact g8_54
  have g9_55 : A9.tmps[55]? = some (.slice (some ⟨g, o + 3, none⟩) 2 (c - 3)) := by rw [hA9, slot_put _ (by decide)]; exact g8_55
  have g9_57 : A9.tmps[57]? = some (.slice (some ⟨g, o, none⟩) n c) := by rw [hA9, slot_put _ (by decide)]; exact g8_57
  have g9_58 : A9.tmps[58]? = some (.slice (some ⟨g, o + 5, none⟩) 4 (c - 5)) := by rw [hA9, slot_put _ (by decide)]; exact g8_58
  have g9_61 : A9.tmps[61]? = some (capV cc) := by rw [hA9, slot_put _ (by decide)]; exact g8_61
  have g9_63 : A9.tmps[63]? = some (.agg #[.int .i64 0, .int .i64 0, .slice none 0 0]) := by rw [hA9, slot_put _ (by decide)]; exact g8_63
  have g9_56 : A9.tmps[56]? = some (.int .i64 (hh : Int)) := by rw [hA9, slot_put _ (by decide)]; exact g8_56
  have g9_59 : A9.tmps[59]? = some (.int .i64 (ii : Int)) := by rw [hA9]; exact slot_same _ (by rw [f8.size, hb]; decide)
  clear hA9
  show wpAnyH Tryz.prog .any ops (NoPanic Q) _ (3 + 1) #[true, true, true, true, true, true, true, false, true, false, true, false, false] _ _
  refine take_slot h7' rfl rfl hns t7.1 t7.2 (v := (.int .u32 (ii : Int))) (fun _ _ _ _ h => h) (fun W _ => by
    have q := slot_eval g9_59
    have i0 : (0 : Int) ≤ (ii : Int) := Int.natCast_nonneg _
    have i1 : (ii : Int) < 4294967296 := by omega
    unfold execOp
    simp only [q]
    simp [go_sem]
    rw [IntKind.wrap_u32]
    omega) hdr ?_
  obtain ⟨A10, hA10⟩ : ∃ Z, Z = A9.put (some 60) (.int .u32 (ii : Int)) := ⟨_, rfl⟩
  rw [← hA10]
  have f10 : Fr [53, 54, 55, 57, 58, 61, 63, 56, 59, 60, 62] b A10 := by rw [hA10]; exact f9.put (by decide) _
  have g10_53 : A10.tmps[53]? = some (.int .i64 A) := by rw [hA10, slot_put _ (by decide)]; exact g9_53
  have g10_54 : A10.tmps[54]? = some (.slice (some ⟨g, o, none⟩) n c) := by rw [hA10, slot_put _ (by decide)]; exact g9_54
  have g10_55 : A10.tmps[55]? = some (.slice (some ⟨g, o + 3, none⟩) 2 (c - 3)) := by rw [hA10, slot_put _ (by decide)]; exact g9_55
  have g10_57 : A10.tmps[57]? = some (.slice (some ⟨g, o, none⟩) n c) := by rw [hA10, slot_put _ (by decide)]; exact g9_57
  have g10_58 : A10.tmps[58]? = some (.slice (some ⟨g, o + 5, none⟩) 4 (c - 5)) := by rw [hA10, slot_put _ (by decide)]; exact g9_58
  have g10_61 : A10.tmps[61]? = some (capV cc) := by rw [hA10, slot_put _ (by decide)]; exact g9_61
  have g10_63 : A10.tmps[63]? = some (.agg #[.int .i64 0, .int .i64 0, .slice none 0 0]) := by rw [hA10, slot_put _ (by decide)]; exact g9_63
  have g10_56 : A10.tmps[56]? = some (.int .i64 (hh : Int)) := by rw [hA10, slot_put _ (by decide)]; exact g9_56
  have g10_59 : A10.tmps[59]? = some (.int .i64 (ii : Int)) := by rw [hA10, slot_put _ (by decide)]; exact g9_59
  have g10_60 : A10.tmps[60]? = some (.int .u32 (ii : Int)) := by rw [hA10]; exact slot_same _ (by rw [f9.size, hb]; decide)
  clear hA10
  show wpAnyH Tryz.prog .any ops (NoPanic Q) _ (2 + 1) #[true, true, true, true, true, true, true, true, true, false, true, false, false] _ _
  refine take_slot h9' rfl rfl hns t9.1 t9.2 (v := (.agg (openC A hh ii cc))) (fun _ _ _ _ h => h) (fun W _ => run_of_build4 (slot_eval g10_53) (slot_eval g10_56) (slot_eval g10_60) (slot_eval g10_61)) hdr ?_
  obtain ⟨A11, hA11⟩ : ∃ Z, Z = A10.put (some 62) (.agg (openC A hh ii cc)) := ⟨_, rfl⟩
  rw [← hA11]
  have f11 : Fr [53, 54, 55, 57, 58, 61, 63, 56, 59, 60, 62] b A11 := by rw [hA11]; exact f10.put (by decide) _
  have g11_53 : A11.tmps[53]? = some (.int .i64 A) := by rw [hA11, slot_put _ (by decide)]; exact g10_53
  have g11_54 : A11.tmps[54]? = some (.slice (some ⟨g, o, none⟩) n c) := by rw [hA11, slot_put _ (by decide)]; exact g10_54
  have g11_55 : A11.tmps[55]? = some (.slice (some ⟨g, o + 3, none⟩) 2 (c - 3)) := by rw [hA11, slot_put _ (by decide)]; exact g10_55
  have g11_57 : A11.tmps[57]? = some (.slice (some ⟨g, o, none⟩) n c) := by rw [hA11, slot_put _ (by decide)]; exact g10_57
  have g11_58 : A11.tmps[58]? = some (.slice (some ⟨g, o + 5, none⟩) 4 (c - 5)) := by rw [hA11, slot_put _ (by decide)]; exact g10_58
  have g11_61 : A11.tmps[61]? = some (capV cc) := by rw [hA11, slot_put _ (by decide)]; exact g10_61
  have g11_63 : A11.tmps[63]? = some (.agg #[.int .i64 0, .int .i64 0, .slice none 0 0]) := by rw [hA11, slot_put _ (by decide)]; exact g10_63
  have g11_56 : A11.tmps[56]? = some (.int .i64 (hh : Int)) := by rw [hA11, slot_put _ (by decide)]; exact g10_56
  have g11_59 : A11.tmps[59]? = some (.int .i64 (ii : Int)) := by rw [hA11, slot_put _ (by decide)]; exact g10_59
  have g11_60 : A11.tmps[60]? = some (.int .u32 (ii : Int)) := by rw [hA11, slot_put _ (by decide)]; exact g10_60
  have g11_62 : A11.tmps[62]? = some (.agg (openC A hh ii cc)) := by rw [hA11]; exact slot_same _ (by rw [f10.size, hb]; decide)
  clear hA11
  have v2 : A11.tmps[2]? = some (.pointer (some ⟨gO, 0, none⟩)) := f11.slot (by decide) s2
  have v3 : A11.tmps[3]? = some (.pointer (some ⟨gN, 0, none⟩)) := f11.slot (by decide) s3
  have bO' : ({ w1 with drawn := w1.drawn + 1 } : World).heap[gO]? = some (.cells C0 28 (0, 0)) := bO
  have bN' : (({ w1 with drawn := w1.drawn + 1 } : World).setCells gO 0 (openC A hh ii cc).toList).heap[gN]? = some (.cells N0 38 (0, 0)) := by rw [heap_sets hne]; exact bN
  show wpAnyH Tryz.prog .any ops (NoPanic Q) _ (1 + 1) #[true, true, true, true, true, true, true, true, true, true, true, false, false] _ _
  refine wpAnyH_all r11 (by simp) fun i hi => ?_
  obtain rfl : i = 11 := by simpa using hi
  refine op_plain h11' rfl ?_
  unfold Oper.wp execOp
  simp only [slot_eval v2, slot_eval g11_62, Sem.run_bind, run_storeO bO' hO (OC.made A hh ii cc), Result.andThen_ok, Sem.run_pure]
  refine ⟨hdr.setCells gO 0 _ (.inl (.inl rfl)), ?_⟩
  show wpAnyH Tryz.prog .any ops (NoPanic Q) _ (0 + 1) #[true, true, true, true, true, true, true, true, true, true, true, true, false] A11 _
  refine wpAnyH_all r12 (by simp) fun i hi => ?_
  obtain rfl : i = 12 := by simpa using hi
  refine op_plain h12' rfl ?_
  unfold Oper.wp execOp
  simp only [slot_eval v3, slot_eval g11_63, Sem.run_bind, run_storeAt_mid _ gN 0 38 (#[.int .i64 0, .int .i64 0, .slice none 0 0] : Array Value) (there_at bN' _ (by rw [hN]; decide)) infoN (by simp [Value.oneCell']), Result.andThen_ok, Sem.run_pure]
  refine ⟨(hdr.setCells gO 0 _ (.inl (.inl rfl))).setCells gN 0 _ (.inl (.inr rfl)), ?_⟩
  show wpAnyH Tryz.prog .any ops (NoPanic Q) _ 0 #[true, true, true, true, true, true, true, true, true, true, true, true, true] A11 _
  exact wpAnyH_done rE (NoPanic.normal (fin _ v2 v3 f11.defers)) _
end
end Go.Proofs.YtkmfnafecdfedaaGreatDoor
/- The program's readOpen, of any body of ten bytes or more. -/
namespace Go.Proofs.YtkmfnafecdfedaaGreatDoor
open Go.RowKit
set_option maxRecDepth 100000

section
attribute [local go_sem ↓] keptO_store keptO_alloc keptO_build
set_option maxHeartbeats 4000000 in
theorem readopen_good (g o n c : Nat) (bs : List Nat) (w : World) (hn : bs.length = n) (hn10 : 10 ≤ n) (hl : n ≤ 5000) (hcap : n ≤ c) (h : BRd w (some ⟨g, o, none⟩) bs) (h4 : bs.getD 0 0 = 4) (hfit : bs.getD 9 0 = n - 10) (cc : Cp) (hr : readC (bs.drop 10) = some cc) (hs : asB (numB ((bs.drop 1).take 2)) cc = true) :
    Calls Tryz.prog 22 #[.slice (some ⟨g, o, none⟩) n c] w fun e w' => OpIs w w' e (.inr (asV (numB ((bs.drop 1).take 2)) cc, numB ((bs.drop 3).take 2), numB ((bs.drop 5).take 4), cc)) ∧ Below w.heap.size w w' := by
  obtain ⟨g', o', e9, hc⟩ := h.1.2 (by omega)
  cases e9
  have h0 : w.cell? ⟨g, o, none⟩ = some (.int .u8 4) := by have := hc 0 (by omega); rw [Nat.add_zero] at this; rw [this]; show some (Value.int .u8 ((bs.getD 0 0 : Nat) : Int)) = _; rw [h4]; rfl
  have zg := World.block_lt_of_cell? w _ h0
  simp only at zg
  have HW : Hid (OW w ((w.alloc (.cells zO 28)).alloc (.cells #[.int .i64 0, .int .i64 0, .slice none 0 0] 38))) := OW.made w
  have c0 : ((w.alloc (.cells zO 28)).alloc (.cells #[.int .i64 0, .int .i64 0, .slice none 0 0] 38)).cell? ⟨g, o, none⟩ = some (.int .u8 4) := by rw [HW.out.bel.cell (p := ⟨g, o, none⟩) zg]; exact h0
  have hc9 : ¬ c = 9 := by omega
  have KC := hide (cut_fits (w := ((w.alloc (.cells zO 28)).alloc (.cells #[.int .i64 0, .int .i64 0, .slice none 0 0] 38))) hn hn10 hl hcap (h.below HW.out.bel) hfit)
  have hpl : (bs.drop 10).length = n - 10 := by rw [List.length_drop]; omega
  have KD : Hid (∀ m ap cp, n - 10 ≤ cp → BRd ((w.alloc (.cells zO 28)).alloc (.cells #[.int .i64 0, .int .i64 0, .slice none 0 0] 38)) ap (bs.drop 10) → Calls Tryz.prog 40 #[.slice ap (n - 10) cp] (((w.alloc (.cells zO 28)).alloc (.cells #[.int .i64 0, .int .i64 0, .slice none 0 0] 38)).drewN m) fun e w' => e = .returned (decV (readC (bs.drop 10))) ∧ Hid (Below w.heap.size w w') ∧ Hid (OW w w')) := fun m ap cp h1 h2 => by
    have := decc_any ap cp (bs.drop 10) (((w.alloc (.cells zO 28)).alloc (.cells #[.int .i64 0, .int .i64 0, .slice none 0 0] 38)).drewN m) (by omega) (by omega) (h2.below ⟨rfl, rfl, rfl, Nat.le_refl _, fun _ _ => rfl⟩)
    rw [hpl] at this
    refine this.mono ?_
    rintro e w' ⟨rfl, hb⟩
    have hw := (HW.out.later (W' := ((w.alloc (.cells zO 28)).alloc (.cells #[.int .i64 0, .int .i64 0, .slice none 0 0] 38)).drewN m) ⟨rfl, rfl, rfl, Nat.le_refl _, fun _ _ => rfl⟩).later hb
    exact ⟨rfl, hw.bel, hw⟩
  have KE : Hid (∀ X s, OW w X → Calls Tryz.prog 21 #[.int .i64 2, .int .i64 ((s : Nat) : Int), .slice none 0 0] X fun e w3 => ∃ a9 c9 W5, e = .returned (.agg #[.int .i64 2, .int .i64 (s : Int), .slice a9 0 c9]) ∧ Hid ((Instr.storeAt 28 (.pointer (some ⟨w.heap.size, 0, none⟩)) (.agg zO)).run Tryz.prog w3 = .ok () W5) ∧ Hid (NtBox W5 (w.heap.size + 1)) ∧ Hid (OEnd w W5 2 s [] a9 0 c9)) := fun X s hX => open_end w X hX 2 s none 0 0 [] rfl (by decide) (brd_none _ _)
  unfold OpIs NoteIs
  simp only
  have hni : (9 : Int) ≤ (n : Int) := by omega
  have hnc : (n : Int) ≤ (c : Int) := by omega
  have hn0 : (0 : Int) < (n : Int) := by omega
  simp only [hr, decV, capV, Option.getD_some, Option.isSome_some] at KD
  have HN : Hid (∀ X, Below w.heap.size w X → Calls Tryz.prog 38 #[.slice (some ⟨g, o + 1, none⟩) 2 (c - 1)] X fun e w' => e = .returned (.int .i64 (numB ((bs.drop 1).take 2) : Int)) ∧ w' = X) := fun X hX => num_in (h.below hX) (by omega) (by omega) (by omega)
  have HN3 : Hid (∀ X, Below w.heap.size w X → Calls Tryz.prog 38 #[.slice (some ⟨g, o + 3, none⟩) 2 (c - 3)] X fun e w' => e = .returned (.int .i64 (numB ((bs.drop 3).take 2) : Int)) ∧ w' = X) := fun X hX => num_in (h.below hX) (by omega) (by omega) (by omega)
  have HN5 : Hid (∀ X, Below w.heap.size w X → Calls Tryz.prog 38 #[.slice (some ⟨g, o + 5, none⟩) 4 (c - 5)] X fun e w' => e = .returned (.int .i64 (numB ((bs.drop 5).take 4) : Int)) ∧ w' = X) := fun X hX => num_in (h.below hX) (by omega) (by omega) (by omega)
  have hid : numB ((bs.drop 5).take 4) < 4294967296 := by
    have h9 := numB_lt ((bs.drop 5).take 4) (brd_from h 5 4 (by omega)).2
    have hl4 : ((bs.drop 5).take 4).length = 4 := by rw [List.length_take, List.length_drop]; omega
    rw [hl4] at h9
    exact h9
  have HA : Hid (∀ X, Calls Tryz.prog 41 #[.int .i64 (numB ((bs.drop 1).take 2) : Int), .agg #[.bool cc.four, .int .i64 cc.as4, .bool cc.gr, .bool cc.rs, .int .i64 cc.tm, .bool cc.fam, .bool cc.fwd, .bool cc.ll, .int .i64 cc.lt]] X fun e w' => e = .returned (.tuple #[.int .i64 (asV (numB ((bs.drop 1).take 2)) cc), .bool true]) ∧ Below X.heap.size X w') := fun X => by
    have := readas_any (numB ((bs.drop 1).take 2)) cc X
    rw [hs] at this
    exact this
  have hl5 := hl
  have HL5 := hide hl5
  have HCA := hide hcap
  clear hc h hfit h4 hcap hl hl5 hn hpl hr hs
  generalize asV (numB ((bs.drop 1).take 2)) cc = AV at *
  generalize numB ((bs.drop 1).take 2) = s at *
  generalize numB ((bs.drop 3).take 2) = hh at *
  generalize numB ((bs.drop 5).take 4) = ii at *
  obtain ⟨four, as4, gr, rs, tm, fam, fwd, ll, lt⟩ := cc
  simp only at KD HA
  have hc1 : ¬ c = 1 := by omega
  go_enter Tryz.func22, Tryz.ntmps22
  go_wp2_with (first | (refine keptO_alloc_intro _ (run_allocO w) ?_))
  with_reducible refine KC.out.mono ?_
  rintro e w1 ⟨ap, cp, aq, cq, m, rfl, rfl, HP, hcp⟩
  go_wp2_with fail
  with_reducible refine (KD.out m ap cp hcp HP.out).mono ?_
  rintro e w2 ⟨rfl, HB2, HW2⟩
  have HBA : Hid (Below w.heap.size w (w2.alloc (.cells #[.bool four, .int .i64 as4, .bool gr, .bool rs, .int .i64 tm, .bool fam, .bool fwd, .bool ll, .int .i64 lt] 26))) := HB2.out.alloc HB2.out.size _
  have HWA : Hid (OW w (w2.alloc (.cells #[.bool four, .int .i64 as4, .bool gr, .bool rs, .int .i64 tm, .bool fam, .bool fwd, .bool ll, .int .i64 lt] 26))) := HW2.out.later ((Below.refl _ _).alloc (Nat.le_refl _) _)
  have HYA : Hid ((w2.alloc (.cells #[.bool four, .int .i64 as4, .bool gr, .bool rs, .int .i64 tm, .bool fam, .bool fwd, .bool ll, .int .i64 lt] 26)).heap[w2.heap.size]? = some (.cells #[.bool four, .int .i64 as4, .bool gr, .bool rs, .int .i64 tm, .bool fam, .bool fwd, .bool ll, .int .i64 lt] 26 (0, 0))) := heap_alloc_new w2 _
  have hz2 : w.heap.size + 1 < w2.heap.size := (Array.getElem?_eq_some_iff.1 HW2.out.bN).1
  have KN : Hid (∀ x : Later (w2.alloc (.cells #[.bool four, .int .i64 as4, .bool gr, .bool rs, .int .i64 tm, .bool fam, .bool fwd, .bool ll, .int .i64 lt] 26)), Calls Tryz.prog 38 #[.slice (some ⟨g, o + 1, none⟩) 2 (c - 1)] x.w fun e w' => e = .returned (.int .i64 (s : Int)) ∧ ∃ y : Later (w2.alloc (.cells #[.bool four, .int .i64 as4, .bool gr, .bool rs, .int .i64 tm, .bool fam, .bool fwd, .bool ll, .int .i64 lt] 26)), w' = y.w) := fun x => calls_same x (HN.out x.w (HBA.out.trans (x.h.mono HBA.out.size)))
  have KA : Hid (∀ x : Later (w2.alloc (.cells #[.bool four, .int .i64 as4, .bool gr, .bool rs, .int .i64 tm, .bool fam, .bool fwd, .bool ll, .int .i64 lt] 26)), Calls Tryz.prog 41 #[.int .i64 (s : Int), .agg #[.bool four, .int .i64 as4, .bool gr, .bool rs, .int .i64 tm, .bool fam, .bool fwd, .bool ll, .int .i64 lt]] x.w fun e w' => e = .returned (.tuple #[.int .i64 AV, .bool true]) ∧ ∃ y : Later (w2.alloc (.cells #[.bool four, .int .i64 as4, .bool gr, .bool rs, .int .i64 tm, .bool fam, .bool fwd, .bool ll, .int .i64 lt] 26)), w' = y.w) := fun x => calls_later x (HA.out x.w)
  have y0 : ∀ x : Later (w2.alloc (.cells #[.bool four, .int .i64 as4, .bool gr, .bool rs, .int .i64 tm, .bool fam, .bool fwd, .bool ll, .int .i64 lt] 26)), x.w.cell? ⟨w2.heap.size, 0, none⟩ = some (.bool four) := fun x => x.cell (by simp [go_sem])
  have y1 : ∀ x : Later (w2.alloc (.cells #[.bool four, .int .i64 as4, .bool gr, .bool rs, .int .i64 tm, .bool fam, .bool fwd, .bool ll, .int .i64 lt] 26)), x.w.cell? ⟨w2.heap.size, 1, none⟩ = some (.int .i64 as4) := fun x => x.cell (by simp [go_sem])
  have y2 : ∀ x : Later (w2.alloc (.cells #[.bool four, .int .i64 as4, .bool gr, .bool rs, .int .i64 tm, .bool fam, .bool fwd, .bool ll, .int .i64 lt] 26)), x.w.cell? ⟨w2.heap.size, 2, none⟩ = some (.bool gr) := fun x => x.cell (by simp [go_sem])
  have y3 : ∀ x : Later (w2.alloc (.cells #[.bool four, .int .i64 as4, .bool gr, .bool rs, .int .i64 tm, .bool fam, .bool fwd, .bool ll, .int .i64 lt] 26)), x.w.cell? ⟨w2.heap.size, 3, none⟩ = some (.bool rs) := fun x => x.cell (by simp [go_sem])
  have y4 : ∀ x : Later (w2.alloc (.cells #[.bool four, .int .i64 as4, .bool gr, .bool rs, .int .i64 tm, .bool fam, .bool fwd, .bool ll, .int .i64 lt] 26)), x.w.cell? ⟨w2.heap.size, 4, none⟩ = some (.int .i64 tm) := fun x => x.cell (by simp [go_sem])
  have y5 : ∀ x : Later (w2.alloc (.cells #[.bool four, .int .i64 as4, .bool gr, .bool rs, .int .i64 tm, .bool fam, .bool fwd, .bool ll, .int .i64 lt] 26)), x.w.cell? ⟨w2.heap.size, 5, none⟩ = some (.bool fam) := fun x => x.cell (by simp [go_sem])
  have y6 : ∀ x : Later (w2.alloc (.cells #[.bool four, .int .i64 as4, .bool gr, .bool rs, .int .i64 tm, .bool fam, .bool fwd, .bool ll, .int .i64 lt] 26)), x.w.cell? ⟨w2.heap.size, 6, none⟩ = some (.bool fwd) := fun x => x.cell (by simp [go_sem])
  have y7 : ∀ x : Later (w2.alloc (.cells #[.bool four, .int .i64 as4, .bool gr, .bool rs, .int .i64 tm, .bool fam, .bool fwd, .bool ll, .int .i64 lt] 26)), x.w.cell? ⟨w2.heap.size, 7, none⟩ = some (.bool ll) := fun x => x.cell (by simp [go_sem])
  have y8 : ∀ x : Later (w2.alloc (.cells #[.bool four, .int .i64 as4, .bool gr, .bool rs, .int .i64 tm, .bool fam, .bool fwd, .bool ll, .int .i64 lt] 26)), x.w.cell? ⟨w2.heap.size, 8, none⟩ = some (.int .i64 lt) := fun x => x.cell (by simp [go_sem])
  have hne := later_some (w2.alloc (.cells #[.bool four, .int .i64 as4, .bool gr, .bool rs, .int .i64 tm, .bool fam, .bool fwd, .bool ll, .int .i64 lt] 26))
  go_wp2_with fail
  refine region_later (by kernel_rfl) (by kernel_rfl) ?_
  repeat (go_big_quiet_step (first | (go_at_call 38; with_reducible exact KN.out _) | (go_at_call 41; with_reducible exact KA.out _)))
  refine wpQuiet_nil ?_
  rintro _ ⟨xq, rfl⟩
  have HWX := hide (HWA.out.later xq.h)
  have HYX : Hid (xq.w.heap[w2.heap.size]? = some (.cells (capC ⟨four, as4, gr, rs, tm, fam, fwd, ll, lt⟩) 26 (0, 0))) := by
    show _ = _
    rw [xq.h.block _ (by simp)]; exact HYA.out
  have kb : ∀ X, Keeps (fun k => k = w.heap.size ∨ k = w.heap.size + 1) xq.w X → Below w.heap.size w X := fun X hX => HWX.out.bel.trans (hX.below _ HWX.out.bel.size (fun x e => by omega))
  have HKB := hide kb
  clear kb
  go_wp2_with fail
  refine o_region _ xq.w w.heap.size (w.heap.size + 1) w2.heap.size g o n c AV hh ii ⟨four, as4, gr, rs, tm, fam, fwd, ll, lt⟩ zO #[.int .i64 0, .int .i64 0, .slice none 0 0] ⟨_, _, _, rfl⟩ ⟨_, _, _, rfl⟩ ⟨_, _, _, rfl⟩ ⟨_, _, _, rfl⟩ ⟨_, _, _, rfl⟩ ⟨_, _, _, rfl⟩ ⟨_, _, _, rfl⟩ ⟨_, _, _, rfl⟩ ⟨_, _, _, rfl⟩ ⟨_, _, _, rfl⟩ ⟨_, _, _, rfl⟩ ⟨_, _, _, rfl⟩ ⟨_, _, _, rfl⟩ rfl (by kernel_rfl)
    ⟨by kernel_rfl, by kernel_rfl⟩ ⟨by kernel_rfl, by kernel_rfl⟩ ⟨by kernel_rfl, by kernel_rfl⟩ ⟨by kernel_rfl, by kernel_rfl⟩ ⟨by kernel_rfl, by kernel_rfl⟩ ⟨by kernel_rfl, by kernel_rfl⟩ ⟨by kernel_rfl, by kernel_rfl⟩ ⟨by kernel_rfl, by kernel_rfl⟩ ⟨by kernel_rfl, by kernel_rfl⟩ (by kernel_rfl) (by kernel_rfl) (by kernel_rfl) (by kernel_rfl) (by kernel_rfl)
    rfl rfl rfl rfl rfl rfl hn10 HL5.out HCA.out hid HWX.out.bO HWX.out.bN (by omega) rfl rfl HYX.out (by omega) (fun X hX => HN3.out X (HKB.out X hX)) (fun X hX => HN5.out X (HKB.out X hX)) ?_
  intro a v2 v3 hd
  have hd0 : a.defers = [] := hd
  have HRO : Hid (((({ xq.w with drawn := xq.w.drawn + 1 } : World).setCells w.heap.size 0 (openC AV hh ii ⟨four, as4, gr, rs, tm, fam, fwd, ll, lt⟩).toList).setCells (w.heap.size + 1) 0 (#[.int .i64 0, .int .i64 0, .slice none 0 0] : Array Value).toList).rangeAt w.heap.size 0 (openC AV hh ii ⟨four, as4, gr, rs, tm, fam, fwd, ll, lt⟩).toList) := bx_apart (bx_set (w := { xq.w with drawn := xq.w.drawn + 1 }) (C0 := zO) (t := 28) HWX.out.bO (by rw [(OC.made _ _ _ _).1, OC.zero.1]; omega)) (by omega)
  have HRN : Hid (((({ xq.w with drawn := xq.w.drawn + 1 } : World).setCells w.heap.size 0 (openC AV hh ii ⟨four, as4, gr, rs, tm, fam, fwd, ll, lt⟩).toList).setCells (w.heap.size + 1) 0 (#[.int .i64 0, .int .i64 0, .slice none 0 0] : Array Value).toList).rangeAt (w.heap.size + 1) 0 (#[.int .i64 0, .int .i64 0, .slice none 0 0] : Array Value).toList) :=
    bx_set (C0 := #[.int .i64 0, .int .i64 0, .slice none 0 0]) (t := 38) (by rw [heap_sets (by omega)]; exact HWX.out.bN) (by simp)
  have HBE : Hid (Below w.heap.size w ((({ xq.w with drawn := xq.w.drawn + 1 } : World).setCells w.heap.size 0 (openC AV hh ii ⟨four, as4, gr, rs, tm, fam, fwd, ll, lt⟩).toList).setCells (w.heap.size + 1) 0 (#[.int .i64 0, .int .i64 0, .slice none 0 0] : Array Value).toList)) :=
    HKB.out _ ((Keeps.setCells (w := xq.w) (w1 := { xq.w with drawn := xq.w.drawn + 1 }) ⟨rfl, rfl, rfl, Nat.le_refl _, fun _ _ _ => rfl⟩ _ 0 _ (.inl (.inl rfl))).setCells _ 0 _ (.inl (.inr rfl)))
  generalize ((({ xq.w with drawn := xq.w.drawn + 1 } : World).setCells w.heap.size 0 (openC AV hh ii ⟨four, as4, gr, rs, tm, fam, fwd, ll, lt⟩).toList).setCells (w.heap.size + 1) 0 (#[.int .i64 0, .int .i64 0, .slice none 0 0] : Array Value).toList) = W9 at *
  go_wp2_with fail
  exact bodyPost_ret (v := .tuple #[.agg (openC AV hh ii ⟨four, as4, gr, rs, tm, fam, fwd, ll, lt⟩), .agg #[.int .i64 0, .int .i64 0, .slice none 0 0]]) (res_cells2 Tryz.results22 _ W9 w.heap.size (w.heap.size + 1) (openC AV hh ii ⟨four, as4, gr, rs, tm, fam, fwd, ll, lt⟩) #[.int .i64 0, .int .i64 0, .slice none 0 0] v2 v3 HRO.out HRN.out Tryz.underlying28 rfl infoO Tryz.underlying38 rfl infoN) hd0 ⟨rfl, HBE.out⟩
end
/-- readOpen, of any body of ten bytes or more. -/
theorem readopen_any (g o n c : Nat) (bs : List Nat) (w : World) (hn : bs.length = n) (hn10 : 10 ≤ n) (hl : n ≤ 5000) (hcap : n ≤ c) (h : BRd w (some ⟨g, o, none⟩) bs) :
    Calls Tryz.prog 22 #[.slice (some ⟨g, o, none⟩) n c] w fun e w' => OpIs w w' e (openR bs) ∧ Below w.heap.size w w' := by
  unfold openR
  by_cases h4 : bs.getD 0 0 = 4
  · rw [if_neg (fun x => x h4)]
    by_cases hf : bs.getD 9 0 = n - 10
    · rw [hn, if_neg (fun x => x hf)]
      cases hr : readC (bs.drop 10) with
      | none => exact readopen_none g o n c bs w hn hn10 hl hcap h h4 hf hr
      | some cc =>
        simp only
        by_cases hs : asB (numB ((bs.drop 1).take 2)) cc = true
        · rw [if_pos hs]; exact readopen_good g o n c bs w hn hn10 hl hcap h h4 hf cc hr hs
        · rw [if_neg hs]; exact readopen_as g o n c bs w hn hn10 hl hcap h h4 hf cc hr (by simpa using hs)
    · rw [hn, if_pos hf]; exact readopen_fit g o n c bs w hn hn10 hl hcap h h4 hf
  · rw [if_pos h4]
    obtain ⟨g', o', e9, hc⟩ := h.1.2 (by omega)
    cases e9
    exact readopen_ver g o n c (bs.getD 0 0) w hn10 (by have := hc 0 (by omega); rwa [Nat.add_zero] at this) h4
end Go.Proofs.YtkmfnafecdfedaaGreatDoor
