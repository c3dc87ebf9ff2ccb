/- A message's box, and its body. -/
import Derived.Test.YtcbonpofbmogjaaGreatDoorMgD1
import Derived.Test.YtcbonpofbmogjaaGreatDoorMgE2
namespace Go.Proofs.YtcbonpofbmogjaaGreatDoor
open Go.RowKit
set_option maxRecDepth 100000

theorem shape_set {g : Nat} {t : TypeId} {f : Nat × Nat} : ∀ (vs : List Value) (o : Nat) (w : World) (C0 : Array Value), w.heap[g]? = some (.cells C0 t f) → ∃ C', (w.setCells g o vs).heap[g]? = some (.cells C' t f) ∧ C'.size = C0.size
  | [], o, w, C0, h => ⟨C0, h, rfl⟩
  | v :: r, o, w, C0, h => by
    rw [World.setCells]
    have h1 : (w.setCell ⟨g, o, none⟩ v).heap[g]? = some (.cells (C0.setIfInBounds o v) t f) := by
      unfold World.setCell
      simp only [Array.getElem?_modify, if_true, h, Option.map_some]
      rfl
    obtain ⟨C', h2, h3⟩ := shape_set r (o + 1) _ _ h1
    exact ⟨C', h2, by rw [h3]; simp⟩
theorem bx_put {w : World} {g : Nat} {C0 C : Array Value} {t : TypeId} (h : w.heap[g]? = some (.cells C0 t (0, 0))) (hs : C.size = C0.size) : (w.setCells g 0 C.toList).heap[g]? = some (.cells C t (0, 0)) := by
  obtain ⟨C', h2, h3⟩ := shape_set C.toList 0 w C0 h
  have hr := bx_set (C := C) h (by omega)
  have : C' = C := by
    apply Array.ext_getElem?
    intro j
    by_cases hj : j < C.size
    · have h5 := hr j C[j] (by rw [Array.getElem?_toList, Array.getElem?_eq_getElem hj])
      unfold World.cell? at h5
      simp only [h2, Nat.zero_add] at h5
      rw [Array.getElem?_eq_getElem hj]
      simpa using h5
    · rw [Array.getElem?_eq_none (by omega), Array.getElem?_eq_none (by omega)]
  rw [h2, this]
theorem put_none (a : Act) (v : Value) : a.put none v = a := rfl
section
variable {ops : Array Oper} {Q : Exit → Act → World → Prop} {id : Nat}
set_option maxHeartbeats 1600000 in
/-- 'm, body := api.Msg{Kind: int(b[18])}, b[19:]'. -/
theorem m_region (b : Act) (w1 : World) (g o n c kd : Nat)
    (o0 : ∃ ty po af, ops[0]? = some { dst := some 29, op := .move (.tmp 0), type := ty, pos := po, after := af, guard := none })
    (o1 : ∃ ty po af, ops[1]? = some { dst := some 30, op := .indexAddr 22 (.tmp 29) (.const (.int .i64 18)), type := ty, pos := po, after := af, guard := none })
    (o2 : ∃ ty po af, ops[2]? = some { dst := some 31, op := .load 5 (.tmp 30), type := ty, pos := po, after := af, guard := none })
    (o3 : ∃ ty po af, ops[3]? = some { dst := some 32, op := .convert 5 3 (.tmp 31), type := ty, pos := po, after := af, guard := none })
    (o4 : ∃ ty po af, ops[4]? = some { dst := some 33, op := .build 40 #[(0, .tmp 32)], type := ty, pos := po, after := af, guard := none })
    (o5 : ∃ ty po af, ops[5]? = some { dst := some 34, op := .move (.tmp 0), type := ty, pos := po, after := af, guard := none })
    (o6 : ∃ ty po af, ops[6]? = some { dst := some 35, op := .slice 22 (.tmp 34) (some (.const (.int .i64 19))) none none, type := ty, pos := po, after := af, guard := none })
    (o7 : ∃ ty po af, ops[7]? = some { dst := some 6, op := .alloc 40, type := ty, pos := po, after := af, guard := none })
    (o8 : ∃ ty po af, ops[8]? = some { dst := none, op := .store 40 (.tmp 6) (.tmp 33), type := ty, pos := po, after := af, guard := none })
    (o9 : ∃ ty po af, ops[9]? = some { dst := some 7, op := .assign (.tmp 35), type := ty, pos := po, after := af, guard := none })
    (hsz : ops.size = 10) (hns : Region.noSelect ops = true)
    (t0 : Region.free .any ops #[false, false, false, false, false, false, false, false, false, false] 0 = true ∧ (Region.ready .any ops #[false, false, false, false, false, false, false, false, false, false]).contains 0 = true)
    (t1 : Region.free .any ops #[true, false, false, false, false, false, false, false, false, false] 1 = true ∧ (Region.ready .any ops #[true, false, false, false, false, false, false, false, false, false]).contains 1 = true)
    (t2 : Region.free .any ops #[true, true, false, false, false, false, false, false, false, false] 2 = true ∧ (Region.ready .any ops #[true, true, false, false, false, false, false, false, false, false]).contains 2 = true)
    (t3 : Region.free .any ops #[true, true, true, false, false, false, false, false, false, false] 3 = true ∧ (Region.ready .any ops #[true, true, true, false, false, false, false, false, false, false]).contains 3 = true)
    (t4 : Region.free .any ops #[true, true, true, true, false, false, false, false, false, false] 4 = true ∧ (Region.ready .any ops #[true, true, true, true, false, false, false, false, false, false]).contains 4 = true)
    (t5 : Region.free .any ops #[true, true, true, true, true, false, false, false, false, false] 5 = true ∧ (Region.ready .any ops #[true, true, true, true, true, false, false, false, false, false]).contains 5 = true)
    (t6 : Region.free .any ops #[true, true, true, true, true, true, false, false, false, false] 6 = true ∧ (Region.ready .any ops #[true, true, true, true, true, true, false, false, false, false]).contains 6 = true)
    (r7 : Region.ready .any ops #[true, true, true, true, true, true, true, false, false, false] = [7]) (r8 : Region.ready .any ops #[true, true, true, true, true, true, true, true, false, false] = [8])
    (r9 : Region.ready .any ops #[true, true, true, true, true, true, true, true, true, false] = [9]) (rE : Region.ready .any ops #[true, true, true, true, true, true, true, true, true, true] = [])
    (hb : b.tmps.size = 75) (h0 : b.tmps[0]? = some (.slice (some ⟨g, o, none⟩) n c)) (hn : 19 ≤ n) (hl : n ≤ 100000) (hkd : kd < 256) (h18 : w1.cell? ⟨g, o + 18, none⟩ = some (.int .u8 (kd : Int)))
    (fin : ∀ a W6, Fr [29, 30, 31, 32, 33, 34, 35, 6, 7] b a → a.tmps[6]? = some (.pointer (some ⟨w1.heap.size, 0, none⟩)) → a.tmps[7]? = some (.slice (if c = 19 then some ⟨g, o, none⟩ else some ⟨g, o + 19, none⟩) (n - 19) (c - 19)) → W6.heap[w1.heap.size]? = some (.cells (msgC (kd : Int) 0 0 (.slice none 0 0)) 40 (0, 0)) → Below w1.heap.size w1 W6 → Q .normal a W6) :
    (Code.region id ops true).wp Tryz.prog Q b w1 := by
  obtain ⟨a0, p0, e0, h0'⟩ := o0
  obtain ⟨a1, p1, e1, h1'⟩ := o1
  obtain ⟨a2, p2, e2, h2'⟩ := o2
  obtain ⟨a3, p3, e3, h3'⟩ := o3
  obtain ⟨a4, p4, e4, h4'⟩ := o4
  obtain ⟨a5, p5, e5, h5'⟩ := o5
  obtain ⟨a6, p6, e6, h6'⟩ := o6
  obtain ⟨a7, p7, e7, h7'⟩ := o7
  obtain ⟨a8, p8, e8, h8'⟩ := o8
  obtain ⟨a9, p9, e9, h9'⟩ := o9
  have hg := World.block_lt_of_cell? w1 _ h18
  simp only at hg
  refine wp_region_noPanic ?_
  refine wp_region_held (S := fun W => Below w1.heap.size w1 W) (by kernel_rfl) ?_
  rw [hsz]
  have hdr : Below w1.heap.size w1 { w1 with drawn := w1.drawn + 1 } := (Below.refl _ w1).drew
  have z0 : b.tmps.size = 75 := hb
  have z1 : (b.put (some 29) (.slice (some ⟨g, o, none⟩) n c)).tmps.size = 75 := by simp [Act.put, hb]
  have z2 : ((b.put (some 29) (.slice (some ⟨g, o, none⟩) n c)).put (some 30) (.pointer (some ⟨g, o + 18, none⟩))).tmps.size = 75 := by simp [Act.put, hb]
  have z3 : (((b.put (some 29) (.slice (some ⟨g, o, none⟩) n c)).put (some 30) (.pointer (some ⟨g, o + 18, none⟩))).put (some 31) (.int .u8 (kd : Int))).tmps.size = 75 := by simp [Act.put, hb]
  have z4 : ((((b.put (some 29) (.slice (some ⟨g, o, none⟩) n c)).put (some 30) (.pointer (some ⟨g, o + 18, none⟩))).put (some 31) (.int .u8 (kd : Int))).put (some 32) (.int .i64 (kd : Int))).tmps.size = 75 := by simp [Act.put, hb]
  have z5 : (((((b.put (some 29) (.slice (some ⟨g, o, none⟩) n c)).put (some 30) (.pointer (some ⟨g, o + 18, none⟩))).put (some 31) (.int .u8 (kd : Int))).put (some 32) (.int .i64 (kd : Int))).put (some 33) (.agg (msgC (kd : Int) 0 0 (.slice none 0 0)))).tmps.size = 75 := by simp [Act.put, hb]
  have z6 : ((((((b.put (some 29) (.slice (some ⟨g, o, none⟩) n c)).put (some 30) (.pointer (some ⟨g, o + 18, none⟩))).put (some 31) (.int .u8 (kd : Int))).put (some 32) (.int .i64 (kd : Int))).put (some 33) (.agg (msgC (kd : Int) 0 0 (.slice none 0 0)))).put (some 34) (.slice (some ⟨g, o, none⟩) n c)).tmps.size = 75 := by simp [Act.put, hb]
  have z7 : (((((((b.put (some 29) (.slice (some ⟨g, o, none⟩) n c)).put (some 30) (.pointer (some ⟨g, o + 18, none⟩))).put (some 31) (.int .u8 (kd : Int))).put (some 32) (.int .i64 (kd : Int))).put (some 33) (.agg (msgC (kd : Int) 0 0 (.slice none 0 0)))).put (some 34) (.slice (some ⟨g, o, none⟩) n c)).put (some 35) (.slice (if c = 19 then some ⟨g, o, none⟩ else some ⟨g, o + 19, none⟩) (n - 19) (c - 19))).tmps.size = 75 := by simp [Act.put, hb]
  have u0 : (b.put (some 29) (.slice (some ⟨g, o, none⟩) n c)).tmps[29]? = some (.slice (some ⟨g, o, none⟩) n c) := slot_same _ (by rw [z0]; decide)
  have u1 : ((b.put (some 29) (.slice (some ⟨g, o, none⟩) n c)).put (some 30) (.pointer (some ⟨g, o + 18, none⟩))).tmps[30]? = some (.pointer (some ⟨g, o + 18, none⟩)) := slot_same _ (by rw [z1]; decide)
  have u2 : (((b.put (some 29) (.slice (some ⟨g, o, none⟩) n c)).put (some 30) (.pointer (some ⟨g, o + 18, none⟩))).put (some 31) (.int .u8 (kd : Int))).tmps[31]? = some (.int .u8 (kd : Int)) := slot_same _ (by rw [z2]; decide)
  have u3 : ((((b.put (some 29) (.slice (some ⟨g, o, none⟩) n c)).put (some 30) (.pointer (some ⟨g, o + 18, none⟩))).put (some 31) (.int .u8 (kd : Int))).put (some 32) (.int .i64 (kd : Int))).tmps[32]? = some (.int .i64 (kd : Int)) := slot_same _ (by rw [z3]; decide)
  have u4 : (((((b.put (some 29) (.slice (some ⟨g, o, none⟩) n c)).put (some 30) (.pointer (some ⟨g, o + 18, none⟩))).put (some 31) (.int .u8 (kd : Int))).put (some 32) (.int .i64 (kd : Int))).put (some 33) (.agg (msgC (kd : Int) 0 0 (.slice none 0 0)))).tmps[33]? = some (.agg (msgC (kd : Int) 0 0 (.slice none 0 0))) := slot_same _ (by rw [z4]; decide)
  have u5 : ((((((b.put (some 29) (.slice (some ⟨g, o, none⟩) n c)).put (some 30) (.pointer (some ⟨g, o + 18, none⟩))).put (some 31) (.int .u8 (kd : Int))).put (some 32) (.int .i64 (kd : Int))).put (some 33) (.agg (msgC (kd : Int) 0 0 (.slice none 0 0)))).put (some 34) (.slice (some ⟨g, o, none⟩) n c)).tmps[34]? = some (.slice (some ⟨g, o, none⟩) n c) := slot_same _ (by rw [z5]; decide)
  have u6 : (((((((b.put (some 29) (.slice (some ⟨g, o, none⟩) n c)).put (some 30) (.pointer (some ⟨g, o + 18, none⟩))).put (some 31) (.int .u8 (kd : Int))).put (some 32) (.int .i64 (kd : Int))).put (some 33) (.agg (msgC (kd : Int) 0 0 (.slice none 0 0)))).put (some 34) (.slice (some ⟨g, o, none⟩) n c)).put (some 35) (.slice (if c = 19 then some ⟨g, o, none⟩ else some ⟨g, o + 19, none⟩) (n - 19) (c - 19))).tmps[35]? = some (.slice (if c = 19 then some ⟨g, o, none⟩ else some ⟨g, o + 19, none⟩) (n - 19) (c - 19)) := slot_same _ (by rw [z6]; decide)
  have hn18 : (18 : Int) < (n : Int) := by omega
  show wpAnyH Tryz.prog .any ops (NoPanic Q) _ (9 + 1) #[false, false, false, false, false, false, false, false, false, false] _ _
  refine take_slot h0' rfl rfl hns t0.1 t0.2 (v := (.slice (some ⟨g, o, none⟩) n c)) (fun _ _ _ _ h => h) (fun W hW => ?R0) hdr ?_
  show wpAnyH Tryz.prog .any ops (NoPanic Q) _ (8 + 1) #[true, false, false, false, false, false, false, false, false, false] _ _
  refine take_slot h1' rfl rfl hns t1.1 t1.2 (v := (.pointer (some ⟨g, o + 18, none⟩))) (fun _ _ _ _ h => h) (fun W hW => ?R1) hdr ?_
  show wpAnyH Tryz.prog .any ops (NoPanic Q) _ (7 + 1) #[true, true, false, false, false, false, false, false, false, false] _ _
  refine take_slot h2' rfl rfl hns t2.1 t2.2 (v := (.int .u8 (kd : Int))) (fun _ _ _ _ h => h) (fun W hW => ?R2) hdr ?_
  show wpAnyH Tryz.prog .any ops (NoPanic Q) _ (6 + 1) #[true, true, true, false, false, false, false, false, false, false] _ _
  refine take_slot h3' rfl rfl hns t3.1 t3.2 (v := (.int .i64 (kd : Int))) (fun _ _ _ _ h => h) (fun W hW => ?R3) hdr ?_
  show wpAnyH Tryz.prog .any ops (NoPanic Q) _ (5 + 1) #[true, true, true, true, false, false, false, false, false, false] _ _
  refine take_slot h4' rfl rfl hns t4.1 t4.2 (v := (.agg (msgC (kd : Int) 0 0 (.slice none 0 0)))) (fun _ _ _ _ h => h) (fun W hW => ?R4) hdr ?_
  show wpAnyH Tryz.prog .any ops (NoPanic Q) _ (4 + 1) #[true, true, true, true, true, false, false, false, false, false] _ _
  refine take_slot h5' rfl rfl hns t5.1 t5.2 (v := (.slice (some ⟨g, o, none⟩) n c)) (fun _ _ _ _ h => h) (fun W hW => ?R5) hdr ?_
  show wpAnyH Tryz.prog .any ops (NoPanic Q) _ (3 + 1) #[true, true, true, true, true, true, false, false, false, false] _ _
  refine take_slot h6' rfl rfl hns t6.1 t6.2 (v := (.slice (if c = 19 then some ⟨g, o, none⟩ else some ⟨g, o + 19, none⟩) (n - 19) (c - 19))) (fun _ _ _ _ h => h) (fun W hW => ?R6) hdr ?_
  show wpAnyH Tryz.prog .any ops (NoPanic Q) _ (2 + 1) #[true, true, true, true, true, true, true, false, false, false] _ _
  obtain ⟨A, hA⟩ : ∃ A, A = (((((((b.put (some 29) (.slice (some ⟨g, o, none⟩) n c)).put (some 30) (.pointer (some ⟨g, o + 18, none⟩))).put (some 31) (.int .u8 (kd : Int))).put (some 32) (.int .i64 (kd : Int))).put (some 33) (.agg (msgC (kd : Int) 0 0 (.slice none 0 0)))).put (some 34) (.slice (some ⟨g, o, none⟩) n c)).put (some 35) (.slice (if c = 19 then some ⟨g, o, none⟩ else some ⟨g, o + 19, none⟩) (n - 19) (c - 19))) := ⟨_, rfl⟩
  have vz : A.tmps.size = 75 := by rw [hA]; exact z7
  have v33 : A.tmps[33]? = some (.agg (msgC (kd : Int) 0 0 (.slice none 0 0))) := by rw [hA, slot_put _ (by decide), slot_put _ (by decide)]; exact u4
  have v35 : A.tmps[35]? = some (.slice (if c = 19 then some ⟨g, o, none⟩ else some ⟨g, o + 19, none⟩) (n - 19) (c - 19)) := by rw [hA]; exact u6
  have vf : Fr [29, 30, 31, 32, 33, 34, 35, 6, 7] b A := by rw [hA]; exact ((((((((Fr.refl _ b).put (by decide) _).put (by decide) _).put (by decide) _).put (by decide) _).put (by decide) _).put (by decide) _).put (by decide) _)
  rw [← hA]
  clear hA
  refine wpAnyH_all r7 (by simp) fun i hi => ?_
  obtain rfl : i = 7 := by simpa using hi
  have hr7 : (execOp A.eval { dst := some 6, op := .alloc 40, type := a7, pos := p7, after := e7, guard := none }).run Tryz.prog { w1 with drawn := w1.drawn + 1 } = .ok (.value (.pointer (some ⟨w1.heap.size, 0, none⟩))) (({ w1 with drawn := w1.drawn + 1 } : World).alloc (.cells zM 40)) := by
    unfold execOp
    simp only [Sem.run_bind, run_allocM, Result.andThen_ok, Sem.run_pure]
  refine op_plain h7' rfl (wp_of_run' hr7 ?_)
  have hb7 : Below w1.heap.size w1 (({ w1 with drawn := w1.drawn + 1 } : World).alloc (.cells zM 40)) := hdr.alloc (Nat.le_refl _) _
  have bx : (({ w1 with drawn := w1.drawn + 1 } : World).alloc (.cells zM 40)).heap[w1.heap.size]? = some (.cells zM 40 (0, 0)) := heap_alloc_new ({ w1 with drawn := w1.drawn + 1 } : World) _
  refine ⟨hb7, ?_⟩
  show wpAnyH Tryz.prog .any ops (NoPanic Q) _ (1 + 1) #[true, true, true, true, true, true, true, true, false, false] _ _
  refine wpAnyH_all r8 (by simp) fun i hi => ?_
  obtain rfl : i = 8 := by simpa using hi
  have s6 : (A.put (some 6) (.pointer (some ⟨w1.heap.size, 0, none⟩))).tmps[6]? = some (.pointer (some ⟨w1.heap.size, 0, none⟩)) := slot_same _ (by rw [vz]; decide)
  have s33 : (A.put (some 6) (.pointer (some ⟨w1.heap.size, 0, none⟩))).tmps[33]? = some (.agg (msgC (kd : Int) 0 0 (.slice none 0 0))) := by rw [slot_put _ (by decide)]; exact v33
  have s35 : (A.put (some 6) (.pointer (some ⟨w1.heap.size, 0, none⟩))).tmps[35]? = some (.slice (if c = 19 then some ⟨g, o, none⟩ else some ⟨g, o + 19, none⟩) (n - 19) (c - 19)) := by rw [slot_put _ (by decide)]; exact v35
  refine op_plain h8' rfl ?_
  unfold Oper.wp execOp
  simp only [slot_eval s6, slot_eval s33, Sem.run_bind, run_storeM bx rfl (MC.msg (kd : Int) 0 0 none 0 0), Result.andThen_ok, Sem.run_pure]
  have hb8 : Below w1.heap.size w1 ((({ w1 with drawn := w1.drawn + 1 } : World).alloc (.cells zM 40)).setCells w1.heap.size 0 (msgC (kd : Int) 0 0 (.slice none 0 0)).toList) :=
    hb7.trans ((((Keeps.refl (fun x => x = w1.heap.size) _).setCells w1.heap.size 0 _ (.inl rfl))).below w1.heap.size (by simp) (fun x e => by omega))
  refine ⟨hb8, ?_⟩
  show wpAnyH Tryz.prog .any ops (NoPanic Q) _ (0 + 1) #[true, true, true, true, true, true, true, true, true, false] _ _
  refine wpAnyH_all r9 (by simp) fun i hi => ?_
  obtain rfl : i = 9 := by simpa using hi
  have hr9 : (execOp (A.put (some 6) (.pointer (some ⟨w1.heap.size, 0, none⟩))).eval { dst := some 7, op := .assign (.tmp 35), type := a9, pos := p9, after := e9, guard := none }).run Tryz.prog ((({ w1 with drawn := w1.drawn + 1 } : World).alloc (.cells zM 40)).setCells w1.heap.size 0 (msgC (kd : Int) 0 0 (.slice none 0 0)).toList) = .ok (.value (.slice (if c = 19 then some ⟨g, o, none⟩ else some ⟨g, o + 19, none⟩) (n - 19) (c - 19))) ((({ w1 with drawn := w1.drawn + 1 } : World).alloc (.cells zM 40)).setCells w1.heap.size 0 (msgC (kd : Int) 0 0 (.slice none 0 0)).toList) := by
    have q := slot_eval s35
    unfold execOp
    simp only [q, Sem.run_pure]
  refine op_plain h9' rfl (wp_of_run' hr9 ?_)
  refine ⟨hb8, ?_⟩
  show wpAnyH Tryz.prog .any ops (NoPanic Q) _ 0 #[true, true, true, true, true, true, true, true, true, true] _ _
  refine wpAnyH_done rE (NoPanic.normal ?_) _
  have vf2 := (vf.put (t := 6) (by decide) (.pointer (some ⟨w1.heap.size, 0, none⟩))).put (t := 7) (by decide) (.slice (if c = 19 then some ⟨g, o, none⟩ else some ⟨g, o + 19, none⟩) (n - 19) (c - 19))
  have w6 : ((A.put (some 6) (.pointer (some ⟨w1.heap.size, 0, none⟩))).put (some 7) (.slice (if c = 19 then some ⟨g, o, none⟩ else some ⟨g, o + 19, none⟩) (n - 19) (c - 19))).tmps[6]? = some (.pointer (some ⟨w1.heap.size, 0, none⟩)) := by rw [slot_put _ (by decide)]; exact s6
  have w7 : ((A.put (some 6) (.pointer (some ⟨w1.heap.size, 0, none⟩))).put (some 7) (.slice (if c = 19 then some ⟨g, o, none⟩ else some ⟨g, o + 19, none⟩) (n - 19) (c - 19))).tmps[7]? = some (.slice (if c = 19 then some ⟨g, o, none⟩ else some ⟨g, o + 19, none⟩) (n - 19) (c - 19)) := slot_same _ (by simp [Act.put, vz])
  exact fin _ _ vf2 w6 w7 (bx_put bx rfl) hb8
  case R0 => exact op_move _ W _ _ _ rfl (slot_eval h0)
  case R1 =>
    have q := slot_eval u0
    unfold execOp
    simp only [q]
    simp [go_sem, hn18]
  case R2 =>
    have q := slot_eval u1
    have q2 : W.cell? ⟨g, o + 18, none⟩ = some (.int .u8 (kd : Int)) := by rw [hW.cell (p := ⟨g, o + 18, none⟩) hg]; exact h18
    unfold execOp
    simp only [q]
    simp [go_sem, q2]
  case R3 =>
    have q := slot_eval u2
    have k0 : (0 : Int) ≤ (kd : Int) := Int.natCast_nonneg _
    have k1 : (kd : Int) < 256 := by omega
    unfold execOp
    simp only [q]
    simp [go_sem]
    rw [IntKind.wrap_i64]
    omega
  case R4 =>
    have q := slot_eval u3
    unfold execOp
    have e : (#[((0 : Nat), Operand.tmp 32)].map fun (i, x) => (i, ((((b.put (some 29) (.slice (some ⟨g, o, none⟩) n c)).put (some 30) (.pointer (some ⟨g, o + 18, none⟩))).put (some 31) (.int .u8 (kd : Int))).put (some 32) (.int .i64 (kd : Int))).eval x)) = #[(0, .int .i64 (kd : Int))] := by simp [q]
    simp only [e, Sem.run_bind, run_buildkM, Result.andThen_ok, Sem.run_pure]
  case R5 => exact op_move _ W _ _ _ rfl (slot_eval (by rw [slot_put _ (by decide), slot_put _ (by decide), slot_put _ (by decide), slot_put _ (by decide), slot_put _ (by decide)]; exact h0))
  case R6 =>
    have q := slot_eval u5
    unfold execOp
    simp only [q]
    by_cases hc19 : c = 19
    · simp [go_sem, hc19]
      omega
    · simp [go_sem, hc19]
      omega
end
end Go.Proofs.YtcbonpofbmogjaaGreatDoor
