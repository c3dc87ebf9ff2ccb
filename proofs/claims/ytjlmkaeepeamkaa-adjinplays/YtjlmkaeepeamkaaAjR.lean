/- An act as a whole value: read, kept in a box. -/
import Derived.Test.YtjlmkaeepeamkaaAjQ
namespace Go.Proofs.Ytjlmkaeepeamkaa
open Go.RowKit
set_option maxRecDepth 100000

/-- The cells of no act. -/
def zX : Array Value := #[.bool false, .int .i64 0, .int .u32 0, .int .i64 0, .int .u32 0, .int .i64 0, .int .i64 0, .int .i64 0, .slice none 0 0, .int .u32 0, .int .i64 0, .int .i64 0, .slice none 0 0, .slice none 0 0, .int .i64 0]
section
variable {P : Program} {a : Act} {w w' : World} {K : Act → World → Prop} {Q : Exit → Act → World → Prop} {dst : Option Tmp} {ty : TypeId} {pos : String} {after : Array Edge} {gd : Option (Nat × Bool)}
theorem keptX_load (x : Operand) : Oper.wp P { dst := dst, op := .load 38 x, type := ty, pos := pos, after := after, guard := gd } a w K Q = Kept P { dst := dst, op := .load 38 x, type := ty, pos := pos, after := after, guard := gd } a w K Q := rfl
theorem keptX_store (x y : Operand) : Oper.wp P { dst := dst, op := .store 38 x y, type := ty, pos := pos, after := after, guard := gd } a w K Q = Kept P { dst := dst, op := .store 38 x y, type := ty, pos := pos, after := after, guard := gd } a w K Q := rfl
theorem keptX_alloc : Oper.wp P { dst := dst, op := .alloc 38, type := ty, pos := pos, after := after, guard := gd } a w K Q = Kept P { dst := dst, op := .alloc 38, type := ty, pos := pos, after := after, guard := gd } a w K Q := rfl
end
theorem infoX : (Try.prog.info? 38).map (·.size) = some 15 := by kernel_rfl
theorem run_allocX (w : World) : (Instr.alloc 38 true (.tuple #[])).run Try.prog w = .ok (.pointer (some ⟨w.heap.size, 0, none⟩)) (w.alloc (.cells zX 38)) := by kernel_rfl
theorem akC_size (pa : Option Addr) (pc : Nat) (ca : Option Addr) (cc : Nat) (ra : Option Addr) (rc : Nat) (k : Ak) : (akC pa pc ca cc ra rc k).size = 15 := rfl
theorem run_loadX {w : World} {g o : Nat} {k : Ak} {pa : Option Addr} {pc : Nat} {ca : Option Addr} {cc : Nat} {ra : Option Addr} {rc : Nat} (h : AkAt w g o k pa pc ca cc ra rc) : (Instr.loadAt 38 (.pointer (some ⟨g, o, none⟩))).run Try.prog w = .ok (.agg (akC pa pc ca cc ra rc k)) w := by
  have := run_loadAt_mid (P := Try.prog) w g o 38 (akC pa pc ca cc ra rc k).toList _ (fun j v hv => h.1 j v (by rw [← Array.getElem?_toList]; exact hv)) Try.underlying38 rfl (by rw [infoX]; rfl)
  simpa using this
theorem store_in {W : World} {Y : Nat} (hb : W.heap[Y]? = some (.cells zX 38 (0, 0))) {pa : Option Addr} {pc : Nat} {ca : Option Addr} {cc : Nat} {ra : Option Addr} {rc : Nat} {k : Ak} : (Instr.storeAt 38 (.pointer (some ⟨Y, 0, none⟩)) (.agg (akC pa pc ca cc ra rc k))).run Try.prog W = .ok () (W.setCells Y 0 (akC pa pc ca cc ra rc k).toList) := by
  refine run_storeAt_mid (P := Try.prog) W Y 0 38 (akC pa pc ca cc ra rc k) (fun j hj => ⟨?_, ?_⟩) (by rw [infoX, akC_size]) (by simp [akC, Value.oneCell'])
  · rw [Nat.zero_add]
    have hj : j < 15 := hj
    have : (zX[j]?).isSome = true := by rw [Array.getElem?_eq_getElem (show j < zX.size from hj)]; rfl
    simpa [World.cell?, hb] using this
  · rw [Nat.zero_add]; simp [World.frozen?, hb]
theorem cell_in {W : World} {Y : Nat} {C : Array Value} (hb : W.heap[Y]? = some (.cells C 38 (0, 0))) (j : Nat) {v : Value} (hv : C[j]? = some v) : W.cell? ⟨Y, j, none⟩ = some v := by simp [World.cell?, hb, hv]
/-- An act laid into a new box. -/
theorem run_storeX (w : World) {pa : Option Addr} {pc : Nat} {ca : Option Addr} {cc : Nat} {ra : Option Addr} {rc : Nat} {k : Ak} : (Instr.storeAt 38 (.pointer (some ⟨w.heap.size, 0, none⟩)) (.agg (akC pa pc ca cc ra rc k))).run Try.prog (w.alloc (.cells zX 38)) = .ok () ((w.alloc (.cells zX 38)).setCells w.heap.size 0 (akC pa pc ca cc ra rc k).toList) :=
  store_in (by unfold World.alloc; exact Array.getElem?_push_size)
theorem act_box {w : World} {g o : Nat} {k : Ak} {pa : Option Addr} {pc : Nat} {ca : Option Addr} {cc : Nat} {ra : Option Addr} {rc : Nat} (h : AkAt w g o k pa pc ca cc ra rc) :
    AkAt ((w.alloc (.cells zX 38)).setCells w.heap.size 0 (akC pa pc ca cc ra rc k).toList) w.heap.size 0 k pa pc ca cc ra rc ∧ Below w.heap.size w ((w.alloc (.cells zX 38)).setCells w.heap.size 0 (akC pa pc ca cc ra rc k).toList) := by
  have hb : (w.alloc (.cells zX 38)).heap[w.heap.size]? = some (.cells zX 38 (0, 0)) := by unfold World.alloc; exact Array.getElem?_push_size
  have hp := heap_puts w.heap.size 38 (akC pa pc ca cc ra rc k).toList 0 (w.alloc (.cells zX 38)) zX hb
  rw [putA_all _ _ (by rfl)] at hp
  have hbe : Below w.heap.size w ((w.alloc (.cells zX 38)).setCells w.heap.size 0 (akC pa pc ca cc ra rc k).toList) := below_puts ((Below.refl _ _).alloc (Nat.le_refl _) _) (Nat.le_refl _) _
  exact ⟨⟨fun j v hv => by rw [Nat.zero_add]; exact cell_in hp j hv, h.2.below hbe⟩, hbe⟩
/-- Are two prefixes the same? -/
theorem run_eqP (A A' : Nat) (L L' : Int) (w : World) : (binOp .eql 29 (pfV A L) (pfV A' L')).run Try.prog w = .ok (.bool (decide (A = A') && decide (L = L'))) w := by
  by_cases g : A = A'
  · by_cases k : L = L'
    · subst g k; simp [binOp, Op.equal, Op.maxDepth, go_sem]
    · subst g
      simp [binOp, Op.equal, Op.maxDepth, go_sem, k]
  · have g' : ¬ (A : Int) = (A' : Int) := by omega
    simp [binOp, Op.equal, Op.maxDepth, go_sem, g, g']
theorem run_neP (A A' : Nat) (L L' : Int) (w : World) : (binOp .neq 29 (pfV A L) (pfV A' L')).run Try.prog w = .ok (.bool (!(decide (A = A') && decide (L = L')))) w := by
  by_cases g : A = A'
  · by_cases k : L = L'
    · subst g k; simp [binOp, Op.equal, Op.maxDepth, go_sem]
    · subst g
      simp [binOp, Op.equal, Op.maxDepth, go_sem, k]
  · have g' : ¬ (A : Int) = (A' : Int) := by omega
    simp [binOp, Op.equal, Op.maxDepth, go_sem, g, g']
section
variable {ρ : Operand → Value} {dst : Option Tmp} {ty t2 : TypeId} {pos : String} {after : Array Edge} {gd : Option (Nat × Bool)}
theorem exec_eqP {w : World} {x y : Operand} {A A' : Nat} {L L' : Int} (hx : ρ x = pfV A L) (hy : ρ y = pfV A' L') :
    (execOp ρ { dst := dst, op := .binOp .eql 29 x y t2, type := ty, pos := pos, after := after, guard := gd }).run Try.prog w = .ok (.value (.bool (decide (A = A') && decide (L = L')))) w := by
  have hr := run_eqP A A' L L' w
  have hg : (eqGuard .eql 29 x y (pfV A L) (pfV A' L')).run Try.prog w = .ok () w := by kernel_rfl
  unfold execOp
  simp only [hx, hy, Sem.run_bind, hg, hr, Result.andThen_ok, Sem.run_pure]
theorem exec_neP {w : World} {x y : Operand} {A A' : Nat} {L L' : Int} (hx : ρ x = pfV A L) (hy : ρ y = pfV A' L') :
    (execOp ρ { dst := dst, op := .binOp .neq 29 x y t2, type := ty, pos := pos, after := after, guard := gd }).run Try.prog w = .ok (.value (.bool (!(decide (A = A') && decide (L = L'))))) w := by
  have hr := run_neP A A' L L' w
  have hg : (eqGuard .neq 29 x y (pfV A L) (pfV A' L')).run Try.prog w = .ok () w := by kernel_rfl
  unfold execOp
  simp only [hx, hy, Sem.run_bind, hg, hr, Result.andThen_ok, Sem.run_pure]
end
end Go.Proofs.Ytjlmkaeepeamkaa
