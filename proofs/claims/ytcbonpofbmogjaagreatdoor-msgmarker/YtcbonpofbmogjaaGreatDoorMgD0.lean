/- Two answers out of their boxes; a region that stores both. -/
import Derived.Test.YtcbonpofbmogjaaGreatDoorMgM
import Derived.Test.YtcbonpofbmogjaaGreatDoorOrd
import Derived.Deep.RegionHeld3
namespace Go.Proofs.YtcbonpofbmogjaaGreatDoor
open Go.RowKit
set_option maxRecDepth 100000

def zN3 : Array Value := #[.int .i64 0, .int .i64 0, .slice none 0 0]
theorem infoN : (Tryz.prog.info? 38).map (·.size) = some 3 := by kernel_rfl
theorem res_cells2 {fn : Func} {p q : Tmp} {tM tN : TypeId} {dM dN : TypeDesc} (h : fn.results = #[.cell p tM, .cell q tN]) (tmps : Array Value) (w : World) (gM gN : Nat) (CM CN : Array Value)
    (hp : tmps[p]? = some (.pointer (some ⟨gM, 0, none⟩))) (hq : tmps[q]? = some (.pointer (some ⟨gN, 0, none⟩))) (rM : w.rangeAt gM 0 CM.toList) (rN : w.rangeAt gN 0 CN.toList)
    (uM : Tryz.prog.underlying tM = some dM) (sM : dM.isRow = true) (iM : (Tryz.prog.info? tM).map (·.size) = some CM.size) (uN : Tryz.prog.underlying tN = some dN) (sN : dN.isRow = true) (iN : (Tryz.prog.info? tN).map (·.size) = some CN.size) :
    (results fn tmps).run Tryz.prog w = .ok (.tuple #[.agg CM, .agg CN]) w := by
  have l1 := run_loadVar_mid (P := Tryz.prog) w gM 0 tM CM.toList dM rM uM sM (by simpa using iM)
  have l2 := run_loadVar_mid (P := Tryz.prog) w gN 0 tN CN.toList dN rN uN sN (by simpa using iN)
  have e1 : tmps.getD p undef = .pointer (some ⟨gM, 0, none⟩) := by rw [Array.getD_eq_getD_getElem?, hp]; rfl
  have e2 : tmps.getD q undef = .pointer (some ⟨gN, 0, none⟩) := by rw [Array.getD_eq_getD_getElem?, hq]; rfl
  unfold results
  rw [h]
  simp only [Array.mapM_eq_mapM_toList, List.mapM_cons, List.mapM_nil, e1, e2, asAddr, Sem.run_bind, Sem.run_pure]
  simp [Sem.run_bind, l1, l2]
theorem bx_set {w : World} {g : Nat} {C0 C : Array Value} {t : TypeId} (h : w.heap[g]? = some (.cells C0 t (0, 0))) (hs : C.size ≤ C0.size) : (w.setCells g 0 C.toList).rangeAt g 0 C.toList :=
  World.rangeAt_setCells_same w g 0 C.toList (by simpa using there_at h _ hs)
theorem bx_apart {w : World} {g g' : Nat} {cs vs : List Value} (h : w.rangeAt g 0 cs) (hne : g ≠ g') : (w.setCells g' 0 vs).rangeAt g 0 cs := World.rangeAt_setCells_apart h g' 0 vs (.inl hne)
theorem heap_sets {w : World} {g k : Nat} {vs : List Value} (h : k ≠ g) : (w.setCells g 0 vs).heap[k]? = w.heap[k]? := by
  by_cases hk : k < w.heap.size
  · exact (((Keeps.refl (fun x => x = g) w).setCells g 0 vs (.inl rfl))).block k hk h
  · have hs : (w.setCells g 0 vs).heap.size = w.heap.size := by
      have : ∀ (vs : List Value) (o : Nat) (w : World), (w.setCells g o vs).heap.size = w.heap.size := by
        intro vs
        induction vs with
        | nil => intro o w; rfl
        | cons v r ih => intro o w; rw [World.setCells, ih]; simp
      exact this vs 0 w
    rw [Array.getElem?_eq_none (by omega), Array.getElem?_eq_none (by omega)]
section
variable {ops : Array Oper} {Q : Exit → Act → World → Prop} {id : Nat}
/-- Two values are found, and stored into the answers' boxes. -/
theorem out_region (b : Act) (w1 : World) (gM gN : Nat) (tM : TypeId) (C0 C N0 N : Array Value) (sx sy : Nat) (ox oy : Op)
    (o0 : ∃ ty po af, ops[0]? = some { dst := some sx, op := ox, type := ty, pos := po, after := af, guard := none })
    (o1 : ∃ ty po af, ops[1]? = some { dst := some sy, op := oy, type := ty, pos := po, after := af, guard := none })
    (o2 : ∃ ty po af, ops[2]? = some { dst := none, op := .store tM (.tmp 2) (.tmp sx), type := ty, pos := po, after := af, guard := none })
    (o3 : ∃ ty po af, ops[3]? = some { dst := none, op := .store 38 (.tmp 3) (.tmp sy), type := ty, pos := po, after := af, guard := none })
    (hsz : ops.size = 4) (hns : Region.noSelect ops = true)
    (f0 : Region.free .any ops #[false, false, false, false] 0 = true) (c0 : (Region.ready .any ops #[false, false, false, false]).contains 0 = true)
    (f1 : Region.free .any ops #[true, false, false, false] 1 = true) (c1 : (Region.ready .any ops #[true, false, false, false]).contains 1 = true)
    (r2 : Region.ready .any ops #[true, true, false, false] = [2]) (r3 : Region.ready .any ops #[true, true, true, false] = [3]) (rE : Region.ready .any ops #[true, true, true, true] = [])
    (hx : ∀ ty po af W, Keeps (fun k => k = gM ∨ k = gN) w1 W → (execOp b.eval { dst := some sx, op := ox, type := ty, pos := po, after := af, guard := none }).run Tryz.prog W = .ok (.value (.agg C)) W)
    (hy : ∀ ty po af W, Keeps (fun k => k = gM ∨ k = gN) w1 W → (execOp (b.put (some sx) (.agg C)).eval { dst := some sy, op := oy, type := ty, pos := po, after := af, guard := none }).run Tryz.prog W = .ok (.value (.agg N)) W)
    (h2 : b.tmps[2]? = some (.pointer (some ⟨gM, 0, none⟩))) (h3 : b.tmps[3]? = some (.pointer (some ⟨gN, 0, none⟩))) (hsx : sx < b.tmps.size) (hsy : sy < b.tmps.size) (n2 : sx ≠ 2 ∧ sy ≠ 2 ∧ sx ≠ 3 ∧ sy ≠ 3 ∧ sx ≠ sy)
    (bM : w1.heap[gM]? = some (.cells C0 tM (0, 0))) (bN : w1.heap[gN]? = some (.cells N0 38 (0, 0))) (hne : gN ≠ gM) (zM : C.size = C0.size) (zN : N.size = N0.size) (iM : (Tryz.prog.info? tM).map (·.size) = some C.size) (iN : (Tryz.prog.info? 38).map (·.size) = some N.size)
    (aM : C.all (·.oneCell') = true) (aN : N.all (·.oneCell') = true)
    (fin : Q .normal ((b.put (some sx) (.agg C)).put (some sy) (.agg N)) ((({ w1 with drawn := w1.drawn + 1 } : World).setCells gM 0 C.toList).setCells gN 0 N.toList)) :
    (Code.region id ops true).wp Tryz.prog Q b w1 := by
  obtain ⟨t0, p0, e0, h0⟩ := o0
  obtain ⟨t1, p1, e1, h1⟩ := o1
  obtain ⟨t2, p2, e2, k2⟩ := o2
  obtain ⟨t3, p3, e3, k3⟩ := o3
  obtain ⟨x2, y2, x3, y3, xy⟩ := n2
  refine wp_region_noPanic ?_
  refine wp_region_held (S := fun W => Keeps (fun k => k = gM ∨ k = gN) w1 W) (by kernel_rfl) ?_
  rw [hsz]
  have hK : Keeps (fun k => k = gM ∨ k = gN) w1 { w1 with drawn := w1.drawn + 1 } := ⟨rfl, rfl, rfl, Nat.le_refl _, fun _ _ _ => rfl⟩
  show wpAnyH Tryz.prog .any ops (NoPanic Q) _ (3 + 1) #[false, false, false, false] b _
  refine take_slot h0 rfl rfl hns f0 c0 (fun _ _ _ _ h => h) (fun W hW => hx t0 p0 e0 W hW) hK ?_
  show wpAnyH Tryz.prog .any ops (NoPanic Q) _ (2 + 1) #[true, false, false, false] _ _
  refine take_slot h1 rfl rfl hns f1 c1 (fun _ _ _ _ h => h) (fun W hW => hy t1 p1 e1 W hW) hK ?_
  show wpAnyH Tryz.prog .any ops (NoPanic Q) _ (1 + 1) #[true, true, false, false] _ _
  have v2 : ((b.put (some sx) (.agg C)).put (some sy) (.agg N)).tmps[2]? = some (.pointer (some ⟨gM, 0, none⟩)) := by rw [slot_put _ y2, slot_put _ x2]; exact h2
  have v3 : ((b.put (some sx) (.agg C)).put (some sy) (.agg N)).tmps[3]? = some (.pointer (some ⟨gN, 0, none⟩)) := by rw [slot_put _ y3, slot_put _ x3]; exact h3
  have vx : ((b.put (some sx) (.agg C)).put (some sy) (.agg N)).tmps[sx]? = some (.agg C) := by rw [slot_put _ (Ne.symm xy)]; exact slot_same _ hsx
  have vy : ((b.put (some sx) (.agg C)).put (some sy) (.agg N)).tmps[sy]? = some (.agg N) := slot_same _ (by simp [Act.put]; exact hsy)
  refine wpAnyH_all r2 (by simp) fun i hi => ?_
  obtain rfl : i = 2 := by simpa using hi
  refine op_plain k2 rfl ?_
  have bM' : ({ w1 with drawn := w1.drawn + 1 } : World).heap[gM]? = some (.cells C0 tM (0, 0)) := bM
  have bN' : (({ w1 with drawn := w1.drawn + 1 } : World).setCells gM 0 C.toList).heap[gN]? = some (.cells N0 38 (0, 0)) := by rw [heap_sets hne]; exact bN
  unfold Oper.wp execOp
  simp only [slot_eval v2, slot_eval vx, Sem.run_bind, run_storeAt_mid _ gM 0 tM C (there_at bM' _ (by omega)) iM aM, Result.andThen_ok, Sem.run_pure]
  refine ⟨hK.setCells gM 0 _ (.inl (.inl rfl)), ?_⟩
  show wpAnyH Tryz.prog .any ops (NoPanic Q) _ (0 + 1) #[true, true, true, false] _ _
  refine wpAnyH_all r3 (by simp) fun i hi => ?_
  obtain rfl : i = 3 := by simpa using hi
  refine op_plain k3 rfl ?_
  unfold Oper.wp execOp
  have g1 : (((b.put (some sx) (.agg C)).put (some sy) (.agg N)).put none undef).eval (.tmp 3) = .pointer (some ⟨gN, 0, none⟩) := slot_eval v3
  have g2 : (((b.put (some sx) (.agg C)).put (some sy) (.agg N)).put none undef).eval (.tmp sy) = .agg N := slot_eval vy
  simp only [g1, g2, Sem.run_bind, run_storeAt_mid _ gN 0 38 N (there_at bN' _ (by omega)) iN aN, Result.andThen_ok, Sem.run_pure]
  refine ⟨(hK.setCells gM 0 _ (.inl (.inl rfl))).setCells gN 0 _ (.inl (.inr rfl)), ?_⟩
  show wpAnyH Tryz.prog .any ops (NoPanic Q) _ 0 #[true, true, true, true] _ _
  exact wpAnyH_done rE (NoPanic.normal fin) _
end
end Go.Proofs.YtcbonpofbmogjaaGreatDoor
