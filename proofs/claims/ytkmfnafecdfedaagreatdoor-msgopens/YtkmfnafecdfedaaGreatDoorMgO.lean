/- The program's readAS; an OPEN as a whole value. -/
import Derived.Test.YtkmfnafecdfedaaGreatDoorMgC
import Derived.Test.YtkmfnafecdfedaaGreatDoorHMd
import Derived.Test.YtkmfnafecdfedaaGreatDoorHCv
import Derived.Test.YtkmfnafecdfedaaGreatDoorLater
namespace Go.Proofs.YtkmfnafecdfedaaGreatDoor
open Go.RowKit
set_option maxRecDepth 100000

/-- Is the AS right, of whom two bytes tell s, and who has the capabilities c? -/
def asB (s : Nat) (c : Cp) : Bool := !(decide (s = 0) || (c.four && (!decide ((s : Int) = c.as4) && !decide (s = 23456))))
def asV (s : Nat) (c : Cp) : Int := if asB s c then (if c.four then c.as4 else (s : Int)) else 0
set_option maxHeartbeats 1600000 in
theorem readas_any (s : Nat) (c : Cp) (w : World) : Calls Tryz.prog 41 #[.int .i64 (s : Int), capV c] w fun e w' => e = .returned (.tuple #[.int .i64 (asV s c), .bool (asB s c)]) ∧ Below w.heap.size w w' := by
  have HB : Hid (∀ o, Below w.heap.size w (w.alloc o)) := fun o => below_new w o
  unfold capV
  by_cases h0 : s = 0
  · have e1 : asB s c = false := by simp [asB, h0]
    have e2 : asV s c = 0 := by simp [asV, e1]
    rw [e1, e2]
    have hi : ((s : Int) == 0) = true := by simp [h0]
    clear e1 e2 h0
    obtain ⟨four, as4, gr, rs, tm, fam, fwd, ll, lt⟩ := c
    go_enter Tryz.func41, Tryz.ntmps41
    go_wp2
    go_ret2
    exact ⟨rfl, HB.out _⟩
  · have hi : ((s : Int) == 0) = false := by simp; omega
    by_cases hf : c.four = true
    · by_cases h4 : (s : Int) = c.as4
      · have e1 : asB s c = true := by simp [asB, h0, h4]
        have e2 : asV s c = c.as4 := by simp [asV, e1, hf]
        rw [e1, e2]
        have hj : ((s : Int) != c.as4) = false := by simp [h4]
        clear e1 e2 h0 h4
        obtain ⟨four, as4, gr, rs, tm, fam, fwd, ll, lt⟩ := c
        simp only at hf hj
        subst hf
        go_enter Tryz.func41, Tryz.ntmps41
        go_wp2
        go_ret2
        exact ⟨rfl, HB.out _⟩
      · have hj : ((s : Int) != c.as4) = true := by simpa using h4
        by_cases h5 : s = 23456
        · have e1 : asB s c = true := by simp [asB, h5]
          have e2 : asV s c = c.as4 := by simp [asV, e1, hf]
          rw [e1, e2]
          have hk : ((s : Int) != 23456) = false := by simp [h5]
          have H5 := hide h5
          clear e1 e2 h0 h4 h5
          obtain ⟨four, as4, gr, rs, tm, fam, fwd, ll, lt⟩ := c
          simp only at hf hj
          subst hf
          go_enter Tryz.func41, Tryz.ntmps41
          go_wp2
          go_ret2
          exact ⟨rfl, HB.out _⟩
        · have e1 : asB s c = false := by simp [asB, h0, hf, h4, h5]
          have e2 : asV s c = 0 := by simp [asV, e1]
          rw [e1, e2]
          have hk : ((s : Int) != 23456) = true := by simp; omega
          have H5 := hide h5
          clear e1 e2 h0 h4 h5
          obtain ⟨four, as4, gr, rs, tm, fam, fwd, ll, lt⟩ := c
          simp only at hf hj
          subst hf
          go_enter Tryz.func41, Tryz.ntmps41
          go_wp2
          go_ret2
          exact ⟨rfl, HB.out _⟩
    · have hf' : c.four = false := by simpa using hf
      have e1 : asB s c = true := by simp [asB, h0, hf']
      have e2 : asV s c = (s : Int) := by simp [asV, e1, hf']
      rw [e1, e2]
      clear e1 e2 h0 hf
      obtain ⟨four, as4, gr, rs, tm, fam, fwd, ll, lt⟩ := c
      simp only at hf'
      subst hf'
      go_enter Tryz.func41, Tryz.ntmps41
      go_wp2
      go_ret2
      exact ⟨rfl, HB.out _⟩
/-- What an OPEN's body tells. -/
def openR (bs : List Nat) : (Nat × Nat × List Nat) ⊕ (Int × Nat × Nat × Cp) :=
  if bs.getD 0 0 ≠ 4 then .inl (2, 1, [0, 4])
  else if bs.getD 9 0 ≠ bs.length - 10 then .inl (2, 0, [])
  else match readC (bs.drop 10) with
    | none => .inl (2, 0, [])
    | some c => if asB (numB ((bs.drop 1).take 2)) c then .inr (asV (numB ((bs.drop 1).take 2)) c, numB ((bs.drop 3).take 2), numB ((bs.drop 5).take 4), c) else .inl (2, 2, [])
/-- The cells of an OPEN. -/
def openC (a : Int) (h i : Nat) (c : Cp) : Array Value := #[.int .i64 a, .int .i64 (h : Int), .int .u32 (i : Int), .bool c.four, .int .i64 c.as4, .bool c.gr, .bool c.rs, .int .i64 c.tm, .bool c.fam, .bool c.fwd, .bool c.ll, .int .i64 c.lt]
def zO : Array Value := openC 0 0 0 cp0
def OC (C : Array Value) : Prop := C.size = 12 ∧ C.all (·.oneCell') = true
theorem OC.made (a : Int) (h i : Nat) (c : Cp) : OC (openC a h i c) := ⟨rfl, by simp [openC, Value.oneCell']⟩
theorem OC.zero : OC zO := OC.made _ _ _ _
theorem infoO : (Tryz.prog.info? 28).map (·.size) = some 12 := by kernel_rfl
section
variable {P : Program} {a : Act} {w w' : World} {K : Act → World → Prop} {Q : Exit → Act → World → Prop} {dst : Option Tmp} {ty : TypeId} {pos : String} {after : Array Edge} {gd : Option (Nat × Bool)}
theorem keptO_store (x y : Operand) : Oper.wp P { dst := dst, op := .store 28 x y, type := ty, pos := pos, after := after, guard := gd } a w K Q = Kept P { dst := dst, op := .store 28 x y, type := ty, pos := pos, after := after, guard := gd } a w K Q := rfl
theorem keptO_alloc : Oper.wp P { dst := dst, op := .alloc 28, type := ty, pos := pos, after := after, guard := gd } a w K Q = Kept P { dst := dst, op := .alloc 28, type := ty, pos := pos, after := after, guard := gd } a w K Q := rfl
theorem keptO_build (xs : Array (Nat × Operand)) : Oper.wp P { dst := dst, op := .build 28 xs, type := ty, pos := pos, after := after, guard := gd } a w K Q = Kept P { dst := dst, op := .build 28 xs, type := ty, pos := pos, after := after, guard := gd } a w K Q := rfl
theorem keptO_store_intro (x y : Operand) (p v : Value) (hx : a.eval x = p) (hy : a.eval y = v) (hr : (Instr.storeAt 28 p v).run P w = .ok () w') (h : K (a.put dst undef) w') : Kept P { dst := dst, op := .store 28 x y, type := ty, pos := pos, after := after, guard := gd } a w K Q := by
  unfold Kept Oper.wp execOp
  simp only [hx, hy, Sem.run_bind, hr, Result.andThen_ok, Sem.run_pure]
  exact h
theorem keptO_alloc_intro (v : Value) (hr : (Instr.alloc 28 true (.tuple #[])).run P w = .ok v w') (h : K (a.put dst v) w') : Kept P { dst := dst, op := .alloc 28, type := ty, pos := pos, after := after, guard := gd } a w K Q := by
  unfold Kept Oper.wp execOp
  simp only [Sem.run_bind, hr, Result.andThen_ok, Sem.run_pure]
  exact h
theorem keptO_build0_intro (v : Value) (hr : (Instr.build 28 #[]).run P w = .ok v w) (h : K (a.put dst v) w) : Kept P { dst := dst, op := .build 28 #[], type := ty, pos := pos, after := after, guard := gd } a w K Q := by
  unfold Kept Oper.wp execOp
  have e : ((#[] : Array (Nat × Operand)).map fun (i, x) => (i, a.eval x)) = #[] := by simp
  simp only [e, Sem.run_bind, hr, Result.andThen_ok, Sem.run_pure]
  exact h
end
theorem run_allocO (w : World) : (Instr.alloc 28 true (.tuple #[])).run Tryz.prog w = .ok (.pointer (some ⟨w.heap.size, 0, none⟩)) (w.alloc (.cells zO 28)) := by kernel_rfl
theorem run_build0O (w : World) : (Instr.build 28 #[]).run Tryz.prog w = .ok (.agg zO) w := by kernel_rfl
theorem run_build4O (a : Int) (h i : Nat) (c : Cp) (w : World) : (Instr.build 28 #[(0, .int .i64 a), (1, .int .i64 (h : Int)), (2, .int .u32 (i : Int)), (3, capV c)]).run Tryz.prog w = .ok (.agg (openC a h i c)) w := by kernel_rfl
theorem run_storeO {w : World} {g : Nat} {C C0 : Array Value} {t : TypeId} (h : w.heap[g]? = some (.cells C0 t (0, 0))) (h0 : C0.size = 12) (hC : OC C) : (Instr.storeAt 28 (.pointer (some ⟨g, 0, none⟩)) (.agg C)).run Tryz.prog w = .ok () (w.setCells g 0 C.toList) :=
  run_storeAt_mid (P := Tryz.prog) w g 0 28 C (there_at h _ (by rw [hC.1, h0]; omega)) (by rw [infoO, hC.1]) hC.2
end Go.Proofs.YtkmfnafecdfedaaGreatDoor
