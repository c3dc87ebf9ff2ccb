/- Three answers, two of them out of their boxes; a region that stores them. -/
import Derived.Test.YtflhohfeahcnfaaGreatDoorHMd
import Derived.Test.YtflhohfeahcnfaaGreatDoorStA
namespace Go.Proofs.YtflhohfeahcnfaaGreatDoor
open Go.RowKit
set_option maxRecDepth 100000

theorem res_cells3 {fn : Func} {p q r : Tmp} {tM tN : TypeId} {dM dN : TypeDesc} (h : fn.results = #[.cell p tM, .cell q tN, .tmp r]) (tmps : Array Value) (w : World) (gM gN : Nat) (CM CN : Array Value) (z : Value)
    (hp : tmps[p]? = some (.pointer (some ⟨gM, 0, none⟩))) (hq : tmps[q]? = some (.pointer (some ⟨gN, 0, none⟩))) (hr : tmps[r]? = some z) (rM : w.rangeAt gM 0 CM.toList) (rN : w.rangeAt gN 0 CN.toList)
    (uM : Tryz.prog.underlying tM = some dM) (sM : dM.isRow = true) (iM : (Tryz.prog.info? tM).map (·.size) = some CM.size) (uN : Tryz.prog.underlying tN = some dN) (sN : dN.isRow = true) (iN : (Tryz.prog.info? tN).map (·.size) = some CN.size) :
    (results fn tmps).run Tryz.prog w = .ok (.tuple #[.agg CM, .agg CN, z]) w := by
  have l1 := run_loadVar_mid (P := Tryz.prog) w gM 0 tM CM.toList dM rM uM sM (by simpa using iM)
  have l2 := run_loadVar_mid (P := Tryz.prog) w gN 0 tN CN.toList dN rN uN sN (by simpa using iN)
  have e1 : tmps.getD p undef = .pointer (some ⟨gM, 0, none⟩) := by rw [Array.getD_eq_getD_getElem?, hp]; rfl
  have e2 : tmps.getD q undef = .pointer (some ⟨gN, 0, none⟩) := by rw [Array.getD_eq_getD_getElem?, hq]; rfl
  have e3 : tmps.getD r undef = z := by rw [Array.getD_eq_getD_getElem?, hr]; rfl
  unfold results
  rw [h]
  simp only [Array.mapM_eq_mapM_toList, List.mapM_cons, List.mapM_nil, e1, e2, e3, asAddr, Sem.run_bind, Sem.run_pure]
  simp [Sem.run_bind, l1, l2]
theorem StrAt.below {w w' : World} {S : Nat} {v d : Value} {k s : Int} (h : StrAt w S v k s d) (hb : Below w.heap.size w w') : StrAt w' S v k s d := h.of_block (hb.block _ (World.block_lt_of_cell? w _ h.c0))
theorem nt_of3 {W : World} {g : Nat} {c s v : Value} (h : W.heap[g]? = some (.cells #[c, s, v] 38 (0, 0))) : (W.cell? ⟨g, 0, none⟩ = some c ∧ W.cell? ⟨g, 1, none⟩ = some s ∧ W.cell? ⟨g, 2, none⟩ = some v) ∧ (W.frozen? ⟨g, 0, none⟩ = false ∧ W.frozen? ⟨g, 1, none⟩ = false ∧ W.frozen? ⟨g, 2, none⟩ = false) := by
  refine ⟨⟨range_of h 0 _ rfl, range_of h 1 _ rfl, range_of h 2 _ rfl⟩, ?_⟩
  simp [World.frozen?, h]
/-- A message and a Note into their boxes, one behind the other. -/
theorem store_two {W : World} {gM gN : Nat} {C C0 : Array Value} {c0 s0 v0 : Value} (bM : W.heap[gM]? = some (.cells C0 40 (0, 0))) (h0 : C0.size = 25) (bN : W.heap[gN]? = some (.cells #[c0, s0, v0] 38 (0, 0))) (hne : gN ≠ gM) (hC : MC C) (c s v : Value) :
    ∃ W2, (Instr.storeAt 40 (.pointer (some ⟨gM, 0, none⟩)) (.agg C)).run Tryz.prog W = .ok () W2 ∧ W2.heap[gN]? = some (.cells #[c0, s0, v0] 38 (0, 0)) ∧ (((W2.setCell ⟨gN, 0, none⟩ c).setCell ⟨gN, 1, none⟩ s).setCell ⟨gN, 2, none⟩ v).rangeAt gM 0 C.toList ∧ (((W2.setCell ⟨gN, 0, none⟩ c).setCell ⟨gN, 1, none⟩ s).setCell ⟨gN, 2, none⟩ v).rangeAt gN 0 (#[c, s, v] : Array Value).toList ∧ Keeps (fun x => x = gM ∨ x = gN) W (((W2.setCell ⟨gN, 0, none⟩ c).setCell ⟨gN, 1, none⟩ s).setCell ⟨gN, 2, none⟩ v) := by
  have hN2 : (W.setCells gM 0 C.toList).heap[gN]? = some (.cells #[c0, s0, v0] 38 (0, 0)) := by rw [heap_sets hne]; exact bN
  refine ⟨W.setCells gM 0 C.toList, run_storeM bM h0 hC, hN2, ?_, ?_, ?_⟩
  · exact bx_apart (g := gM) (g' := gN) (vs := [c, s, v]) (bx_set bM (by rw [hC.1, h0]; exact Nat.le_refl _)) (Ne.symm hne)
  · exact bx_set (C := #[c, s, v]) hN2 (by simp)
  · exact ((Keeps.refl _ W).setCells gM 0 C.toList (.inl (.inl rfl))).setCells gN 0 [c, s, v] (.inl (.inr rfl))
section
variable {ops : Array Oper} {Q : Exit → Act → World → Prop} {id : Nat}
/-- Two values are found, and stored into the answers' boxes; true beside them. -/
theorem out_region5 (b : Act) (w1 : World) (gM gN : Nat) (tM : TypeId) (C0 C N0 N : Array Value) (sx sy : Nat) (ox oy : Op)
    (o0 : ∃ ty po af, ops[0]? = some { dst := some sx, op := ox, type := ty, pos := po, after := af, guard := none })
    (o1 : ∃ ty po af, ops[1]? = some { dst := some sy, op := oy, type := ty, pos := po, after := af, guard := none })
    (o2 : ∃ ty po af, ops[2]? = some { dst := none, op := .store tM (.tmp 2) (.tmp sx), type := ty, pos := po, after := af, guard := none })
    (o3 : ∃ ty po af, ops[3]? = some { dst := none, op := .store 38 (.tmp 3) (.tmp sy), type := ty, pos := po, after := af, guard := none })
    (o4 : ∃ ty po af, ops[4]? = some { dst := some 4, op := .assign (.const (.bool true)), type := ty, pos := po, after := af, guard := none })
    (hsz : ops.size = 5) (hns : Region.noSelect ops = true)
    (f0 : Region.free .any ops #[false, false, false, false, false] 0 = true) (c0 : (Region.ready .any ops #[false, false, false, false, false]).contains 0 = true)
    (f1 : Region.free .any ops #[true, false, false, false, false] 1 = true) (c1 : (Region.ready .any ops #[true, false, false, false, false]).contains 1 = true)
    (r2 : Region.ready .any ops #[true, true, false, false, false] = [2]) (r3 : Region.ready .any ops #[true, true, true, false, false] = [3]) (r4 : Region.ready .any ops #[true, true, true, true, false] = [4]) (rE : Region.ready .any ops #[true, true, true, true, true] = [])
    (hx : ∀ ty po af W, Keeps (fun k => k = gM ∨ k = gN) w1 W → (execOp b.eval { dst := some sx, op := ox, type := ty, pos := po, after := af, guard := none }).run Tryz.prog W = .ok (.value (.agg C)) W)
    (hy : ∀ ty po af W, Keeps (fun k => k = gM ∨ k = gN) w1 W → (execOp (b.put (some sx) (.agg C)).eval { dst := some sy, op := oy, type := ty, pos := po, after := af, guard := none }).run Tryz.prog W = .ok (.value (.agg N)) W)
    (h2 : b.tmps[2]? = some (.pointer (some ⟨gM, 0, none⟩))) (h3 : b.tmps[3]? = some (.pointer (some ⟨gN, 0, none⟩))) (hsx : sx < b.tmps.size) (hsy : sy < b.tmps.size) (n2 : sx ≠ 2 ∧ sy ≠ 2 ∧ sx ≠ 3 ∧ sy ≠ 3 ∧ sx ≠ sy)
    (bM : w1.heap[gM]? = some (.cells C0 tM (0, 0))) (bN : w1.heap[gN]? = some (.cells N0 38 (0, 0))) (hne : gN ≠ gM) (zM : C.size = C0.size) (zN : N.size = N0.size) (iM : (Tryz.prog.info? tM).map (·.size) = some C.size) (iN : (Tryz.prog.info? 38).map (·.size) = some N.size)
    (aM : C.all (·.oneCell') = true) (aN : N.all (·.oneCell') = true)
    (fin : Q .normal (((b.put (some sx) (.agg C)).put (some sy) (.agg N)).put (some 4) (.bool true)) ((({ w1 with drawn := w1.drawn + 1 } : World).setCells gM 0 C.toList).setCells gN 0 N.toList)) :
    (Code.region id ops true).wp Tryz.prog Q b w1 := by
  obtain ⟨t0, p0, e0, h0⟩ := o0
  obtain ⟨t1, p1, e1, h1⟩ := o1
  obtain ⟨t2, p2, e2, k2⟩ := o2
  obtain ⟨t3, p3, e3, k3⟩ := o3
  obtain ⟨t4, p4, e4, k4⟩ := o4
  obtain ⟨x2, y2, x3, y3, xy⟩ := n2
  refine wp_region_noPanic ?_
  refine wp_region_held (S := fun W => Keeps (fun k => k = gM ∨ k = gN) w1 W) (by kernel_rfl) ?_
  rw [hsz]
  have hK : Keeps (fun k => k = gM ∨ k = gN) w1 { w1 with drawn := w1.drawn + 1 } := ⟨rfl, rfl, rfl, Nat.le_refl _, fun _ _ _ => rfl⟩
  show wpAnyH Tryz.prog .any ops (NoPanic Q) _ (4 + 1) #[false, false, false, false, false] b _
  refine take_slot h0 rfl rfl hns f0 c0 (fun _ _ _ _ h => h) (fun W hW => hx t0 p0 e0 W hW) hK ?_
  show wpAnyH Tryz.prog .any ops (NoPanic Q) _ (3 + 1) #[true, false, false, false, false] _ _
  refine take_slot h1 rfl rfl hns f1 c1 (fun _ _ _ _ h => h) (fun W hW => hy t1 p1 e1 W hW) hK ?_
  show wpAnyH Tryz.prog .any ops (NoPanic Q) _ (2 + 1) #[true, true, false, false, false] _ _
  have v2 : ((b.put (some sx) (.agg C)).put (some sy) (.agg N)).tmps[2]? = some (.pointer (some ⟨gM, 0, none⟩)) := by rw [slot_put _ y2, slot_put _ x2]; exact h2
  have v3 : ((b.put (some sx) (.agg C)).put (some sy) (.agg N)).tmps[3]? = some (.pointer (some ⟨gN, 0, none⟩)) := by rw [slot_put _ y3, slot_put _ x3]; exact h3
  have vx : ((b.put (some sx) (.agg C)).put (some sy) (.agg N)).tmps[sx]? = some (.agg C) := by rw [slot_put _ (Ne.symm xy)]; exact slot_same _ hsx
  have vy : ((b.put (some sx) (.agg C)).put (some sy) (.agg N)).tmps[sy]? = some (.agg N) := slot_same _ (by simp [Act.put]; exact hsy)
  refine wpAnyH_all r2 (by simp) fun i hi => ?_
  obtain rfl : i = 2 := by simpa using hi
  refine op_plain k2 rfl ?_
  have bM' : ({ w1 with drawn := w1.drawn + 1 } : World).heap[gM]? = some (.cells C0 tM (0, 0)) := bM
  have bN' : (({ w1 with drawn := w1.drawn + 1 } : World).setCells gM 0 C.toList).heap[gN]? = some (.cells N0 38 (0, 0)) := by rw [heap_sets hne]; exact bN
  unfold Oper.wp execOp
  simp only [slot_eval v2, slot_eval vx, Sem.run_bind, run_storeAt_mid _ gM 0 tM C (there_at bM' _ (by omega)) iM aM, Result.andThen_ok, Sem.run_pure]
  refine ⟨hK.setCells gM 0 _ (.inl (.inl rfl)), ?_⟩
  show wpAnyH Tryz.prog .any ops (NoPanic Q) _ (1 + 1) #[true, true, true, false, false] _ _
  refine wpAnyH_all r3 (by simp) fun i hi => ?_
  obtain rfl : i = 3 := by simpa using hi
  refine op_plain k3 rfl ?_
  unfold Oper.wp execOp
  have g1 : (((b.put (some sx) (.agg C)).put (some sy) (.agg N)).put none undef).eval (.tmp 3) = .pointer (some ⟨gN, 0, none⟩) := slot_eval v3
  have g2 : (((b.put (some sx) (.agg C)).put (some sy) (.agg N)).put none undef).eval (.tmp sy) = .agg N := slot_eval vy
  simp only [g1, g2, Sem.run_bind, run_storeAt_mid _ gN 0 38 N (there_at bN' _ (by omega)) iN aN, Result.andThen_ok, Sem.run_pure]
  refine ⟨(hK.setCells gM 0 _ (.inl (.inl rfl))).setCells gN 0 _ (.inl (.inr rfl)), ?_⟩
  show wpAnyH Tryz.prog .any ops (NoPanic Q) _ (0 + 1) #[true, true, true, true, false] _ _
  refine wpAnyH_all r4 (by simp) fun i hi => ?_
  obtain rfl : i = 4 := by simpa using hi
  refine op_plain k4 rfl ?_
  unfold Oper.wp execOp
  simp only [Sem.run_pure]
  refine ⟨(hK.setCells gM 0 _ (.inl (.inl rfl))).setCells gN 0 _ (.inl (.inr rfl)), ?_⟩
  show wpAnyH Tryz.prog .any ops (NoPanic Q) _ 0 #[true, true, true, true, true] _ _
  exact wpAnyH_done rE (NoPanic.normal fin) _
end
end Go.Proofs.YtflhohfeahcnfaaGreatDoor
/- A law's boxes: a message and a Note that a call has answered. -/
namespace Go.Proofs.YtflhohfeahcnfaaGreatDoor
open Go.RowKit
set_option maxRecDepth 100000

theorem nt_ofL {W : World} {X : Nat} (h : W.heap[X]? = some (.cells #[.int .i64 0, .int .i64 0, .slice none 0 0] 38 (0, 0))) : NtBox W X := by
  obtain ⟨⟨a, b, c⟩, d, e, f⟩ := nt_of3 h
  exact ⟨(Array.getElem?_eq_some_iff.1 h).1, a, b, c, d, e, f⟩
/-- What stands when both are stored. -/
structure LB (w1 X : World) (C : Array Value) (c s : Int) (a : Option Addr) (n cap : Nat) : Prop where
  bM : X.heap[w1.heap.size]? = some (.cells C 40 (0, 0))
  bN : X.heap[w1.heap.size + 1]? = some (.cells #[.int .i64 c, .int .i64 s, .slice a n cap] 38 (0, 0))
  bel : Below w1.heap.size w1 X
theorem law_boxes (w1 : World) {C : Array Value} (hC : MC C) (c s : Int) (a : Option Addr) (n cap : Nat) :
    ∃ X1 X3, Hid ((Instr.alloc 40 true (.tuple #[])).run Tryz.prog w1 = .ok (.pointer (some ⟨w1.heap.size, 0, none⟩)) X1) ∧ X1.heap.size = w1.heap.size + 1 ∧ Hid ((Instr.storeAt 40 (.pointer (some ⟨w1.heap.size, 0, none⟩)) (.agg C)).run Tryz.prog (X1.alloc (.cells #[.int .i64 0, .int .i64 0, .slice none 0 0] 38)) = .ok () X3) ∧ Hid (NtBox X3 (w1.heap.size + 1)) ∧ Hid (LB w1 (((X3.setCell ⟨w1.heap.size + 1, 0, none⟩ (.int .i64 c)).setCell ⟨w1.heap.size + 1, 1, none⟩ (.int .i64 s)).setCell ⟨w1.heap.size + 1, 2, none⟩ (.slice a n cap)) C c s a n cap) := by
  have hX1 : (w1.alloc (.cells zM 40)).heap.size = w1.heap.size + 1 := by simp
  have hM : ((w1.alloc (.cells zM 40)).alloc (.cells #[.int .i64 0, .int .i64 0, .slice none 0 0] 38)).heap[w1.heap.size]? = some (.cells zM 40 (0, 0)) := by rw [heap_old (by simp)]; exact heap_alloc_new w1 _
  have hN : ((w1.alloc (.cells zM 40)).alloc (.cells #[.int .i64 0, .int .i64 0, .slice none 0 0] 38)).heap[w1.heap.size + 1]? = some (.cells #[.int .i64 0, .int .i64 0, .slice none 0 0] 38 (0, 0)) := by rw [← hX1]; exact heap_alloc_new _ _
  have h5 := bx_put (C := C) hM hC.1
  have h6 : (((w1.alloc (.cells zM 40)).alloc (.cells #[.int .i64 0, .int .i64 0, .slice none 0 0] 38)).setCells w1.heap.size 0 C.toList).heap[w1.heap.size + 1]? = some (.cells #[.int .i64 0, .int .i64 0, .slice none 0 0] 38 (0, 0)) := by rw [heap_sets (by omega)]; exact hN
  have hb : Below w1.heap.size w1 ((w1.alloc (.cells zM 40)).alloc (.cells #[.int .i64 0, .int .i64 0, .slice none 0 0] 38)) := ((Below.refl _ _).alloc (Nat.le_refl _) _).alloc (by simp) _
  have hk : Keeps (fun x => x = w1.heap.size ∨ x = w1.heap.size + 1) ((w1.alloc (.cells zM 40)).alloc (.cells #[.int .i64 0, .int .i64 0, .slice none 0 0] 38)) ((((w1.alloc (.cells zM 40)).alloc (.cells #[.int .i64 0, .int .i64 0, .slice none 0 0] 38)).setCells w1.heap.size 0 C.toList).setCells (w1.heap.size + 1) 0 [.int .i64 c, .int .i64 s, .slice a n cap]) := ((Keeps.refl _ _).setCells _ 0 _ (.inl (.inl rfl))).setCells _ 0 _ (.inl (.inr rfl))
  refine ⟨_, _, run_allocM w1, hX1, run_storeM hM rfl hC, nt_ofL h6, ⟨?_, ?_, ?_⟩⟩
  · have := heap_sets (w := (((w1.alloc (.cells zM 40)).alloc (.cells #[.int .i64 0, .int .i64 0, .slice none 0 0] 38)).setCells w1.heap.size 0 C.toList)) (g := w1.heap.size + 1) (k := w1.heap.size) (vs := [.int .i64 c, .int .i64 s, .slice a n cap]) (by omega)
    exact this.trans h5
  · exact bx_put (C := #[.int .i64 c, .int .i64 s, .slice a n cap]) h6 rfl
  · exact hb.trans (hk.below _ hb.size (fun x e => by omega))
theorem LB.later {w1 X X' : World} {C : Array Value} {c s : Int} {a : Option Addr} {n cap : Nat} (h : LB w1 X C c s a n cap) (hb : Below X.heap.size X X') : LB w1 X' C c s a n cap :=
  ⟨by rw [hb.block _ (Array.getElem?_eq_some_iff.1 h.bM).1]; exact h.bM, by rw [hb.block _ (Array.getElem?_eq_some_iff.1 h.bN).1]; exact h.bN, h.bel.trans (hb.mono h.bel.size)⟩
/-- The boxes alone. -/
structure Bx (X : World) (p : Nat) (C : Array Value) (c s : Int) (a : Option Addr) (n cap : Nat) : Prop where
  bM : X.heap[p]? = some (.cells C 40 (0, 0))
  bN : X.heap[p + 1]? = some (.cells #[.int .i64 c, .int .i64 s, .slice a n cap] 38 (0, 0))
theorem Bx.later {X X' : World} {p : Nat} {C : Array Value} {c s : Int} {a : Option Addr} {n cap : Nat} (h : Bx X p C c s a n cap) (hb : Below X.heap.size X X') : Bx X' p C c s a n cap :=
  ⟨by rw [hb.block _ (Array.getElem?_eq_some_iff.1 h.bM).1]; exact h.bM, by rw [hb.block _ (Array.getElem?_eq_some_iff.1 h.bN).1]; exact h.bN⟩
theorem Bx.keep {F : Nat → Prop} {X X' : World} {p : Nat} {C : Array Value} {c s : Int} {a : Option Addr} {n cap : Nat} (h : Bx X p C c s a n cap) (hk : Keeps F X X') (h0 : ¬ F p) (h1 : ¬ F (p + 1)) : Bx X' p C c s a n cap :=
  ⟨by rw [hk.block _ (Array.getElem?_eq_some_iff.1 h.bM).1 h0]; exact h.bM, by rw [hk.block _ (Array.getElem?_eq_some_iff.1 h.bN).1 h1]; exact h.bN⟩
end Go.Proofs.YtflhohfeahcnfaaGreatDoor
/- The program's Next: what waits is no whole message yet; its head is wrong. -/
namespace Go.Proofs.YtflhohfeahcnfaaGreatDoor
open Go.RowKit
set_option maxRecDepth 100000

section
attribute [local go_sem ↓] keptM_load keptM_store keptM_alloc keptM_build
set_option maxHeartbeats 4000000 in
theorem next_nil (w : World) : Calls Tryz.prog 19 #[.pointer none] w fun e w' => e = .returned (.tuple #[.agg zM, .agg #[.int .i64 0, .int .i64 0, .slice none 0 0], .bool false]) ∧ Below w.heap.size w w' := by
  obtain ⟨W2, hst, hN2, hRM, hRN, hK⟩ := store_two (dW_M w) rfl (dW_N w) (by omega) MC.zero (.int .i64 0) (.int .i64 0) (.slice none 0 0)
  obtain ⟨⟨n0, n1, n2⟩, f0, f1, f2⟩ := nt_of3 hN2
  have HST := hide hst
  have HRM := hide hRM
  have HRN := hide hRN
  have HK := hide hK
  have hz2 : w.heap.size + 1 < W2.heap.size := (Array.getElem?_eq_some_iff.1 hN2).1
  clear hst hRM hRN hK hN2
  unfold dW at HST
  go_enter Tryz.func19, Tryz.ntmps19
  go_wp2_with (first | (refine keptM_alloc_intro _ (run_allocM w) ?_) | (refine keptM_build0_intro _ (run_build0M _) ?_) | (refine keptM_store_intro _ _ (.pointer (some ⟨w.heap.size, 0, none⟩)) (.agg zM) (by rfl) (by rfl) HST.out ?_))
  refine bodyPost_ret (v := .tuple #[.agg zM, .agg #[.int .i64 0, .int .i64 0, .slice none 0 0], .bool false]) (res_cells3 Tryz.results19 _ _ w.heap.size (w.heap.size + 1) zM _ _ rfl rfl rfl HRM.out HRN.out Tryz.underlying40 rfl infoM Tryz.underlying38 rfl infoN) rfl ⟨rfl, ?_⟩
  exact (dW_below w).trans (HK.out.below _ (dW_below w).size (fun x e => by omega))
set_option maxHeartbeats 4000000 in
theorem next_wait (S n c z : Nat) (a : Option Addr) (bs : List Nat) (s : Int) (d : Value) (w : World) (h : StrAt w S (.slice a n c) 0 s d) (hn : bs.length = n) (hl : n ≤ 100000) (hcap : n ≤ c) (hb : BRd w a bs) (hS : SaidM w) (hr : headM bs = (z, 0, 0, [])) (hz : z = 0 ∨ n < z) :
    Calls Tryz.prog 19 #[.pointer (some ⟨S, 0, none⟩)] w fun e w' => e = .returned (.tuple #[.agg zM, .agg #[.int .i64 0, .int .i64 0, .slice none 0 0], .bool false]) ∧ Below w.heap.size w w' := by
  have KH := head_dW a c bs w (by omega) (by omega) hb hS _ hr
  rw [hn] at KH
  have HK := hide KH
  simp only [List.length_nil] at HK
  have HSt := hide h
  have c0 := h.c0
  have c1 := h.c1
  have zS : S < w.heap.size := World.block_lt_of_cell? w _ c0
  clear KH h hb hS hr
  go_enter Tryz.func19, Tryz.ntmps19
  go_wp2_with (refine keptM_alloc_intro _ (run_allocM w) ?_)
  show Calls Tryz.prog 23 #[.slice a n c] (dW w) _
  with_reducible refine HK.out.mono ?_
  rintro e w1 ⟨a9, c9, rfl, HO, HB⟩
  have hsz : w.heap.size + 1 + 1 ≤ w1.heap.size := by have := HB.out.size; rw [dW_size] at this; exact this
  have HBW : Hid (Below w.heap.size w w1) := (dW_below w).trans (HB.out.mono (by omega))
  have hM : (w1.alloc (.cells #[.int .i64 0, .int .i64 0, .slice a9 0 c9] 38)).heap[w.heap.size]? = some (.cells zM 40 (0, 0)) := by rw [heap_old (by omega), HB.out.block _ (by omega)]; exact dW_M w
  have hN : (w1.alloc (.cells #[.int .i64 0, .int .i64 0, .slice a9 0 c9] 38)).heap[w.heap.size + 1]? = some (.cells #[.int .i64 0, .int .i64 0, .slice none 0 0] 38 (0, 0)) := by rw [heap_old (by omega), HB.out.block _ (by omega)]; exact dW_N w
  obtain ⟨W2, hst, hN2, hRM, hRN, hK⟩ := store_two hM rfl hN (by omega) MC.zero (.int .i64 0) (.int .i64 0) (.slice none 0 0)
  obtain ⟨⟨n0, n1, n2⟩, f0, f1, f2⟩ := nt_of3 hN2
  have HST := hide hst
  have HRM := hide hRM
  have HRN := hide hRN
  have HKK := hide hK
  have hz2 : w.heap.size + 1 < W2.heap.size := (Array.getElem?_eq_some_iff.1 hN2).1
  have d0 : w1.cell? ⟨S, 0, none⟩ = some (.slice a n c) := by rw [HBW.out.cell (p := ⟨S, 0, none⟩) zS]; exact c0
  have zS1 : S < w1.heap.size := by omega
  clear hst hRM hRN hK hN2 hM hN
  rcases hz with rfl | hz
  · go_wp2_with (first | (refine keptM_build0_intro _ (run_build0M _) ?_) | (refine keptM_store_intro _ _ (.pointer (some ⟨w.heap.size, 0, none⟩)) (.agg zM) (by rfl) (by rfl) HST.out ?_))
    refine bodyPost_ret (v := .tuple #[.agg zM, .agg #[.int .i64 0, .int .i64 0, .slice none 0 0], .bool false]) (res_cells3 Tryz.results19 _ _ w.heap.size (w.heap.size + 1) zM _ _ rfl rfl rfl HRM.out HRN.out Tryz.underlying40 rfl infoM Tryz.underlying38 rfl infoN) rfl ⟨rfl, ?_⟩
    exact (HBW.out.alloc (by omega) _).trans (HKK.out.below _ (by simp; omega) (fun x e => by omega))
  · have ez : ((z : Int) == 0) = false := by simp; omega
    have gz : (n : Int) < (z : Int) := by omega
    go_wp2_with (first | (refine keptM_build0_intro _ (run_build0M _) ?_) | (refine keptM_store_intro _ _ (.pointer (some ⟨w.heap.size, 0, none⟩)) (.agg zM) (by rfl) (by rfl) HST.out ?_))
    refine bodyPost_ret (v := .tuple #[.agg zM, .agg #[.int .i64 0, .int .i64 0, .slice none 0 0], .bool false]) (res_cells3 Tryz.results19 _ _ w.heap.size (w.heap.size + 1) zM _ _ rfl rfl rfl HRM.out HRN.out Tryz.underlying40 rfl infoM Tryz.underlying38 rfl infoN) rfl ⟨rfl, ?_⟩
    exact (HBW.out.alloc (by omega) _).trans (HKK.out.below _ (by simp; omega) (fun x e => by omega))
set_option maxHeartbeats 4000000 in
theorem next_bad (S n c : Nat) (a : Option Addr) (bs : List Nat) (s : Int) (d : Value) (w : World) (h : StrAt w S (.slice a n c) 0 s d) (hn : bs.length = n) (hl : n ≤ 100000) (hcap : n ≤ c) (hb : BRd w a bs) (hS : SaidM w) (k q : Nat) (nd : List Nat) (hr : headM bs = (0, k, q, nd)) (hk : k ≠ 0) :
    Calls Tryz.prog 19 #[.pointer (some ⟨S, 0, none⟩)] w fun e w' => (∃ u, e = .returned (.tuple #[.agg zM, u, .bool true]) ∧ NoteIs w.heap.size w' u k q nd) ∧ Below w.heap.size w w' := by
  have KH := head_dW a c bs w (by omega) (by omega) hb hS _ hr
  rw [hn] at KH
  have HK := hide KH
  simp only at HK
  have hkz : ((k : Int) != 0) = true := by simp; omega
  have c0 := h.c0
  have c1 := h.c1
  have zS : S < w.heap.size := World.block_lt_of_cell? w _ c0
  clear KH h hb hS hr hk
  unfold NoteIs
  generalize nd.length = dl at *
  go_enter Tryz.func19, Tryz.ntmps19
  go_wp2_with (refine keptM_alloc_intro _ (run_allocM w) ?_)
  show Calls Tryz.prog 23 #[.slice a n c] (dW w) _
  with_reducible refine HK.out.mono ?_
  rintro e w1 ⟨a9, c9, rfl, HO, HB⟩
  have hsz : w.heap.size + 1 + 1 ≤ w1.heap.size := by have := HB.out.size; rw [dW_size] at this; exact this
  have HBW : Hid (Below w.heap.size w w1) := (dW_below w).trans (HB.out.mono (by omega))
  go_wp2_with fail
  have HMb2 : Hid ((w1.alloc (.cells #[.int .i64 (k : Int), .int .i64 (q : Int), .slice a9 dl c9] 38)).heap[w.heap.size]? = some (.cells zM 40 (0, 0))) := by
    show _ = _; rw [heap_old (by omega), HB.out.block _ (by omega)]; exact dW_M w
  have HNb2 : Hid ((w1.alloc (.cells #[.int .i64 (k : Int), .int .i64 (q : Int), .slice a9 dl c9] 38)).heap[w.heap.size + 1]? = some (.cells #[.int .i64 0, .int .i64 0, .slice none 0 0] 38 (0, 0))) := by
    show _ = _; rw [heap_old (by omega), HB.out.block _ (by omega)]; exact dW_N w
  have HXb : Hid ((w1.alloc (.cells #[.int .i64 (k : Int), .int .i64 (q : Int), .slice a9 dl c9] 38)).heap[w1.heap.size]? = some (.cells #[.int .i64 (k : Int), .int .i64 (q : Int), .slice a9 dl c9] 38 (0, 0))) := heap_alloc_new w1 _
  have HOW : Hid ((w1.alloc (.cells #[.int .i64 (k : Int), .int .i64 (q : Int), .slice a9 dl c9] 38)).ownsRow (w.heap.size + 2) 5 1 (.slice a9 dl c9) dl (bcells nd)) := HO.out.alloc _
  have HBW2 : Hid (Below w.heap.size w (w1.alloc (.cells #[.int .i64 (k : Int), .int .i64 (q : Int), .slice a9 dl c9] 38))) := HBW.out.alloc (by omega) _
  have hz9 : (w1.alloc (.cells #[.int .i64 (k : Int), .int .i64 (q : Int), .slice a9 dl c9] 38)).heap.size = w1.heap.size + 1 := by simp
  have HZ := hide hz9
  clear hz9
  generalize (w1.alloc (.cells #[.int .i64 (k : Int), .int .i64 (q : Int), .slice a9 dl c9] 38)) = W at *
  refine out_region5 _ W w.heap.size (w.heap.size + 1) 40 zM zM #[.int .i64 0, .int .i64 0, .slice none 0 0] #[.int .i64 (k : Int), .int .i64 (q : Int), .slice a9 dl c9] 35 36 _ _ ⟨_, _, _, rfl⟩ ⟨_, _, _, rfl⟩ ⟨_, _, _, rfl⟩ ⟨_, _, _, rfl⟩ ⟨_, _, _, rfl⟩ rfl (by kernel_rfl) (by kernel_rfl) (by kernel_rfl) (by kernel_rfl) (by kernel_rfl) (by kernel_rfl) (by kernel_rfl) (by kernel_rfl) (by kernel_rfl)
    (fun ty po af W' _ => run_of_build W') (fun ty po af W' hW => run_of_loadN (by rfl) (by
      show W'.heap[w1.heap.size]? = _
      rw [hW.block _ (by rw [HZ.out]; omega) (by omega)]; exact HXb.out)) rfl rfl (show 35 < 70 by decide) (show 36 < 70 by decide) (by decide) HMb2.out HNb2.out (by omega) rfl rfl infoM infoN MC.zero.2 (by simp [Value.oneCell']) ?_
  simp only [Act.put, List.setIfInBounds_toArray, List.set_cons_zero, List.set_cons_succ]
  have HRM : Hid (((({ W with drawn := W.drawn + 1 } : World).setCells w.heap.size 0 zM.toList).setCells (w.heap.size + 1) 0 (#[Value.int .i64 (k : Int), .int .i64 (q : Int), .slice a9 dl c9] : Array Value).toList).rangeAt w.heap.size 0 zM.toList) := bx_apart (bx_set (w := { W with drawn := W.drawn + 1 }) HMb2.out (Nat.le_refl _)) (by omega)
  have HRN : Hid (((({ W with drawn := W.drawn + 1 } : World).setCells w.heap.size 0 zM.toList).setCells (w.heap.size + 1) 0 (#[Value.int .i64 (k : Int), .int .i64 (q : Int), .slice a9 dl c9] : Array Value).toList).rangeAt (w.heap.size + 1) 0 (#[Value.int .i64 (k : Int), .int .i64 (q : Int), .slice a9 dl c9] : Array Value).toList) :=
    bx_set (C0 := #[.int .i64 0, .int .i64 0, .slice none 0 0]) (t := 38) (by rw [heap_sets (by omega)]; exact HNb2.out) (by simp)
  have HKe : Hid (Keeps (fun x => x = w.heap.size ∨ x = w.heap.size + 1) W ((({ W with drawn := W.drawn + 1 } : World).setCells w.heap.size 0 zM.toList).setCells (w.heap.size + 1) 0 (#[Value.int .i64 (k : Int), .int .i64 (q : Int), .slice a9 dl c9] : Array Value).toList)) :=
    (Keeps.setCells (w := W) (w1 := { W with drawn := W.drawn + 1 }) ⟨rfl, rfl, rfl, Nat.le_refl _, fun _ _ _ => rfl⟩ _ 0 _ (.inl (.inl rfl))).setCells _ 0 _ (.inl (.inr rfl))
  generalize ((({ W with drawn := W.drawn + 1 } : World).setCells w.heap.size 0 zM.toList).setCells (w.heap.size + 1) 0 (#[Value.int .i64 (k : Int), .int .i64 (q : Int), .slice a9 dl c9] : Array Value).toList) = W9 at *
  go_wp2_with fail
  refine bodyPost_ret (v := .tuple #[.agg zM, .agg #[.int .i64 (k : Int), .int .i64 (q : Int), .slice a9 dl c9], .bool true]) (res_cells3 Tryz.results19 _ W9 w.heap.size (w.heap.size + 1) zM _ _ rfl rfl rfl HRM.out HRN.out Tryz.underlying40 rfl infoM Tryz.underlying38 rfl infoN) rfl ⟨⟨_, rfl, a9, c9, rfl, ?_⟩, ?_⟩
  · exact own_low (own_keep HOW.out HKe.out (by omega)) (by omega)
  · exact HBW2.out.trans (HKe.out.below _ (by rw [HZ.out]; omega) (fun x e => by omega))
end
end Go.Proofs.YtflhohfeahcnfaaGreatDoor
