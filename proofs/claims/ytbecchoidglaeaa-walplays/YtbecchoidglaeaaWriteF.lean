/- Write: what it answers, and what it turns. -/
import Derived.Test.YtbecchoidglaeaaWrite
import Derived.Deep.DrawnRows
import Derived.Deep.RegionLaw
namespace Go.Proofs.Ytbecchoidglaeaa
open Go.RowKit
set_option maxRecDepth 100000

/-- Write(i, p) that is done. -/
def St.write (s : St) (i : Nat) (p : Nat → Nat) : St := { s with now := putPage s.now i 64 p, lo := s.lo ++ [(i, p)] }

/-- A store into one page of 'now'. -/
theorem DiskIn.storeNow {w : World} {D N L : Nat} {v : Value} {s : St} (h : DiskIn w D N L v s) (i : Nat) (hi : i < s.n) (p : Nat → Nat) :
    DiskIn (w.setCells N (i * 64) (valsOf p 64)) D N L v { s with now := putPage s.now i 64 p } := by
  have hk : Keeps (fun b => b = N) w (w.setCells N (i * 64) (valsOf p 64)) := (Keeps.refl _ _).setCells N _ _ (.inl rfl)
  exact
  { h with
    block := by rw [heap_setCells N _ _ _ D h.dn]; exact h.block
    gn := h.gn.store i hi 64 (Nat.le_refl _) p
    gl := h.gl.keeps hk (Ne.symm h.nl)
    own := by
      refine ⟨h.own.1, ?_⟩
      rcases h.own.2 with hh | ⟨g, cap, cur, e, hb, hg, rest⟩
      · exact .inl hh
      · refine .inr ⟨g, cap, cur, e, hb, ?_, rest⟩
        have e2 : v.ownBlock = some g := by rw [e]; rfl
        rw [heap_setCells N _ _ _ g (fun e3 => by subst e3; exact h.vn e2)]
        exact hg }
theorem DiskIn.drew {w : World} {D N L : Nat} {v : Value} {s : St} (h : DiskIn w D N L v s) : DiskIn w.drew D N L v s :=
  h.keeps (F := fun _ => False) (Keeps.refl _ _).drew (fun _ _ h => h)
/-- The loose ones are others now: in a row of their own, stored into the disk. -/
theorem DiskIn.turnLoose {w w1 : World} {D N L : Nat} {v v1 : Value} {s : St} (h : DiskIn w D N L v s) {F : Nat → Prop} (hk : Keeps F w w1) (hF : ∀ b, b < w.heap.size → F b → v.ownBlock = some b)
    (lo : List (Nat × (Nat → Nat))) (hown : w1.ownsRow 0 95 65 v1 lo.length (wrs lo)) (hv : ∀ b, v1.ownBlock = some b → v.ownBlock = some b ∨ w.heap.size ≤ b)
    (hats : ∀ x ∈ lo, x.1 < s.n) (hmany : lo.length ≤ 1000000) : DiskIn (w1.setCell ⟨D, 2, none⟩ v1) D N L v1 { s with lo := lo } := by
  have nD : ¬ F D := fun hf => h.vd (hF D h.lt hf)
  have nN : ¬ F N := fun hf => h.vn (hF N h.gn.1 hf)
  have nL : ¬ F L := fun hf => h.vl (hF L h.gl.1 hf)
  have hlN := h.gn.1
  have hlL := h.gl.1
  have hlD := h.lt
  have hb1 := h.block
  rw [← hk.block D h.lt nD] at hb1
  have hks : Keeps (fun b => b = D) w1 (w1.setCell ⟨D, 2, none⟩ v1) := (Keeps.refl _ _).setCell D 2 _ (.inl rfl)
  have v1d : v1.ownBlock ≠ some D := fun e => by rcases hv D e with h1 | h1; exact h.vd h1; omega
  have v1n : v1.ownBlock ≠ some N := fun e => by rcases hv N e with h1 | h1; exact h.vn h1; omega
  have v1l : v1.ownBlock ≠ some L := fun e => by rcases hv L e with h1 | h1; exact h.vl h1; omega
  exact
  { h with
    block := heap_set_at w1 D 2 _ _ _ v1 hb1
    gn := (h.gn.keeps hk nN).keeps hks (Ne.symm h.dn)
    gl := (h.gl.keeps hk nL).keeps hks (Ne.symm h.dl)
    own := by
      refine ⟨hown.1, ?_⟩
      rcases hown.2 with hh | ⟨g, cap, cur, e, hb, hg, rest⟩
      · exact .inl hh
      · refine .inr ⟨g, cap, cur, e, hb, ?_, rest⟩
        have e2 : v1.ownBlock = some g := by rw [e]; rfl
        rw [heap_setCell w1 D 2 v1 g (fun e3 => by subst e3; exact v1d e2)]
        exact hg
    vd := v1d
    vn := v1n
    vl := v1l
    ats := hats
    many := hmany }

theorem cell_grown {Y w2 : World} {o : Obj} {row : Option Nat} {D k h : Nat} {v : Value} (hg : (Y.alloc o).drew.grownBy w2 row) (zs : Y.heap.size = h) (hD : D < h) (hne : row ≠ some D) (hc : Y.cell? ⟨D, k, none⟩ = some v) : w2.cell? ⟨D, k, none⟩ = some v := by
  have hb : w2.heap[D]? = (Y.alloc o).drew.heap[D]? := hg.block D (by simp; omega) (Ne.symm hne)
  rw [World.cell?_of_block (w := (Y.alloc o).drew) hb]
  exact (World.cell?_alloc_lt Y o ⟨D, k, none⟩ (by rw [zs]; exact hD)).trans hc
theorem frozen_grown {Y w2 : World} {o : Obj} {row : Option Nat} {D k h : Nat} (hg : (Y.alloc o).drew.grownBy w2 row) (zs : Y.heap.size = h) (hD : D < h) (hne : row ≠ some D) (hc : Y.frozen? ⟨D, k, none⟩ = false) : w2.frozen? ⟨D, k, none⟩ = false := by
  have hb : w2.heap[D]? = (Y.alloc o).drew.heap[D]? := hg.block D (by simp; omega) (Ne.symm hne)
  rw [World.frozen?_of_block (w := (Y.alloc o).drew) hb]
  exact (World.frozen?_alloc_past _ _ _ (by rw [zs]; exact hD)).trans hc

theorem write_fin {w0 Y w2 : World} {D N L : Nat} {v : Value} {s : St} {o : Obj} (h : DiskIn Y D N L v s) (hk : Keeps (fun b => b = D ∨ b = N) w0 Y) (hm : s.lo.length < 1000000) (x : Nat × (Nat → Nat)) (hx : x.1 < s.n)
    (hg : (Y.alloc o).drew.grownBy w2 v.ownBlock) {gg cp k : Nat} (hown : w2.ownsRow 0 95 65 (.slice (some ⟨gg, 0, none⟩) (s.lo.length + 1) cp) (s.lo.length + 1) (wrs s.lo ++ wcl x)) (hat : v.ownBlock = some gg ∨ gg = k + 1) (hs : Y.heap.size = k) :
    DiskIn (w2.setCell ⟨D, 2, none⟩ (.slice (some ⟨gg, 0, none⟩) (s.lo.length + 1) cp)) D N L (.slice (some ⟨gg, 0, none⟩) (s.lo.length + 1) cp) { s with lo := s.lo ++ [x] } ∧
      Keeps (foot D N L v) w0 (w2.setCell ⟨D, 2, none⟩ (.slice (some ⟨gg, 0, none⟩) (s.lo.length + 1) cp)) ∧ ∀ b, (Value.slice (some ⟨gg, 0, none⟩) (s.lo.length + 1) cp).ownBlock = some b → v.ownBlock = some b ∨ w0.heap.size ≤ b := by
  have k1 : Keeps (fun b => v.ownBlock = some b) Y w2 := (((Keeps.refl _ Y).alloc o).drew).grown hg (fun b e => .inl e)
  have hsz := hk.size
  refine ⟨h.turnLoose k1 (fun b _ e => e) (s.lo ++ [x]) (by rw [wrs_snoc, List.length_append]; exact hown) (fun b e => ?_) (fun y hy => ?_) (by simp; omega), ?_, fun b e => ?_⟩
  · simp [Value.ownBlock] at e
    subst e
    rcases hat with h1 | h1
    · exact .inl h1
    · exact .inr (by omega)
  · rcases List.mem_append.1 hy with hy | hy
    · exact h.ats y hy
    · simp at hy; subst hy; exact hx
  · refine Keeps.setCell ?_ D 2 _ (.inl (.inl rfl))
    refine Keeps.trans (hk.mono (fun b _ e => by rcases e with e | e; exact .inl e; exact .inr (.inl e))) k1 (fun b _ e => .inr (.inr (.inr e)))
  · simp [Value.ownBlock] at e
    subst e
    rcases hat with h1 | h1
    · exact .inl h1
    · exact .inr (by omega)

/-- An operation that the walk's own rules are kept from. -/
def Kept (P : Program) (o : Oper) (a : Act) (w : World) (K : Act → World → Prop) (Q : Exit → Act → World → Prop) : Prop := Oper.wp P o a w K Q
section
variable {P : Program} {a : Act} {w w' : World} {K : Act → World → Prop} {Q : Exit → Act → World → Prop} {dst : Option Tmp} {ty : TypeId} {pos : String} {after : Array Edge} {gd : Option (Nat × Bool)}
theorem kept_load (x : Operand) : Oper.wp P { dst := dst, op := .load 95 x, type := ty, pos := pos, after := after, guard := gd } a w K Q = Kept P { dst := dst, op := .load 95 x, type := ty, pos := pos, after := after, guard := gd } a w K Q := rfl
theorem kept_build (n : Nat) (parts : Array (Nat × Operand)) : Oper.wp P { dst := dst, op := .buildSlice 68 n parts, type := ty, pos := pos, after := after, guard := gd } a w K Q = Kept P { dst := dst, op := .buildSlice 68 n parts, type := ty, pos := pos, after := after, guard := gd } a w K Q := rfl
theorem kept_append (x y : Operand) : Oper.wp P { dst := dst, op := .call { callee := .builtin .append, args := #[x, y], argTypes := #[68, 68] }, type := ty, pos := pos, after := after, guard := gd } a w K Q = Kept P { dst := dst, op := .call { callee := .builtin .append, args := #[x, y], argTypes := #[68, 68] }, type := ty, pos := pos, after := after, guard := gd } a w K Q := rfl
theorem kept_load_intro (x : Operand) (p v : Value) (hx : a.eval x = p) (hr : (Instr.loadAt 95 p).run P w = .ok v w) (h : K (a.put dst v) w) : Kept P { dst := dst, op := .load 95 x, type := ty, pos := pos, after := after, guard := gd } a w K Q := by
  unfold Kept Oper.wp execOp
  simp only [hx, Sem.run_bind, hr, Result.andThen_ok, Sem.run_pure]
  exact h
theorem kept_build_intro (x : Operand) (p v : Value) (hx : a.eval x = p) (hr : (Instr.buildSlice 68 1 #[(0, p)]).run P w = .ok v w') (h : K (a.put dst v) w') : Kept P { dst := dst, op := .buildSlice 68 1 #[(0, x)], type := ty, pos := pos, after := after, guard := gd } a w K Q := by
  unfold Kept Oper.wp execOp
  have e : (#[(0, x)].map fun (i, x) => (i, a.eval x)) = #[(0, p)] := by simp [hx]
  simp only [e, Sem.run_bind, hr, Result.andThen_ok, Sem.run_pure]
  exact h
end
theorem write_load (w : World) (b o : Nat) (x : Nat × (Nat → Nat)) (h : w.rangeAt b o (wcl x)) :
    (Instr.loadAt 95 (.pointer (some ⟨b, o, none⟩))).run Try.prog w = .ok (.agg (wcl x).toArray) w :=
  run_loadAt_mid w b o 95 _ _ h Try.underlying95 rfl (by rw [Try.size95, wr_length])

set_option maxHeartbeats 400000 in
theorem write_nil (i : Int) (a : Option Addr) (len cap : Nat) (w : World) : Calls Try.prog 28 #[.pointer none, .int .i64 i, .slice a len cap] w fun e w' => e = .returned (.int .i64 1) ∧ w' = w := by
  go_enter Try.func28, Try.ntmps28
  go_wp2_with fail
  refine (has_nil i _).mono ?_
  rintro e w1 ⟨rfl, rfl⟩
  go_wp2
  go_ret
  exact ⟨rfl, rfl⟩
set_option maxHeartbeats 400000 in
theorem write_bad {w : World} {D N L : Nat} {v : Value} {s : St} (h : DiskIn w D N L v s) (i : Int) (a : Option Addr) (len cap : Nat) (hb : ¬ (0 ≤ i ∧ i < s.n) ∨ 64 < len) :
    Calls Try.prog 28 #[.pointer (some ⟨D, 0, none⟩), .int .i64 i, .slice a len cap] w fun e w' => e = .returned (.int .i64 1) ∧ w' = w := by
  by_cases hi : 0 ≤ i ∧ i < s.n
  · have hl : 64 < len := by rcases hb with hb | hb; exact absurd hi hb; exact hb
    have hh := has_in h i
    rw [decide_eq_true hi] at hh
    have HH := hide hh
    clear hh h hb
    go_enter Try.func28, Try.ntmps28
    go_wp2_with fail
    refine HH.out.mono ?_
    rintro e w1 ⟨rfl, rfl⟩
    go_wp2
    go_ret
    exact ⟨rfl, rfl⟩
  · have hh := has_in h i
    rw [decide_eq_false hi] at hh
    have HH := hide hh
    clear hh h hb
    go_enter Try.func28, Try.ntmps28
    go_wp2_with fail
    refine HH.out.mono ?_
    rintro e w1 ⟨rfl, rfl⟩
    go_wp2
    go_ret
    exact ⟨rfl, rfl⟩
set_option maxHeartbeats 400000 in
theorem write_down {w : World} {D N L : Nat} {v : Value} {s : St} (h : DiskIn w D N L v s) (i : Nat) (hi : i < s.n) (a : Option Addr) (len cap : Nat) (hl : len ≤ 64) (hp : s.power = false) :
    Calls Try.prog 28 #[.pointer (some ⟨D, 0, none⟩), .int .i64 (i : Int), .slice a len cap] w fun e w' => e = .returned (.int .i64 4) ∧ DiskIn w' D N L v s.spent ∧ Keeps (fun b => b = D) w w' := by
  have hh := has_in h (i : Int)
  rw [decide_eq_true ⟨by omega, by omega⟩] at hh
  have HH := hide hh
  have H := hide h
  have HP := hide hp
  clear hh h hp
  go_enter Try.func28, Try.ntmps28
  go_wp2_with fail
  refine HH.out.mono ?_
  rintro e w1 ⟨rfl, rfl⟩
  go_wp2_with fail
  refine (spend_in H.out).mono ?_
  rintro e w2 ⟨rfl, hd, hk⟩
  rw [HP.out]
  have HD := hide hd
  have HK := hide hk
  clear hd hk
  go_wp2
  go_ret
  exact ⟨rfl, HD.out, HK.out⟩

attribute [local go_sem ↓] Go.wp_at_zero Go.wp_at_succ kept_load kept_build kept_append
set_option maxRecDepth 100000 in
set_option maxHeartbeats 1600000 in
theorem write_in {w : World} {D N L : Nat} {v : Value} {s : St} (h : DiskIn w D N L v s) (i : Nat) (hi : i < s.n) (a : Option Addr) (len cap : Nat) (f : Nat → Nat) (hl : len ≤ 64) (hp : s.power = true)
    (hm : s.lo.length < 1000000) (hr : Rw w a len f) (ha : ∀ x, a = some x → 0 < len → x.block ≠ D) :
    Calls Try.prog 28 #[.pointer (some ⟨D, 0, none⟩), .int .i64 (i : Int), .slice a len cap] w fun e w' =>
      e = .returned (.int .i64 0) ∧ ∃ v', DiskIn w' D N L v' (s.spent.write i (fill f len)) ∧ Keeps (foot D N L v) w w' ∧ ∀ b, v'.ownBlock = some b → v.ownBlock = some b ∨ w.heap.size ≤ b := by
  have hh := has_in h (i : Int)
  rw [decide_eq_true ⟨by omega, by omega⟩] at hh
  have HH := hide hh
  have H := hide h
  have HP := hide hp
  have HR := hide hr
  have HA := hide ha
  clear hh h hp hr ha
  go_enter Try.func28, Try.ntmps28
  go_wp2_with fail
  refine HH.out.mono ?_
  rintro e w0 ⟨rfl, rfl⟩
  go_wp2_with fail
  refine (spend_in H.out).mono ?_
  rintro e w1 ⟨rfl, hd, hk⟩
  rw [HP.out]
  have HD := hide hd
  have HK := hide hk
  have HR1 := hide (HR.out.keeps hk HA.out)
  have hd0 := hd.c0
  have hd2 := hd.c2
  have fd2 := hd.fz 2
  have hn : N < w1.heap.size := hd.gn.1
  have hD : D < w1.heap.size := hd.lt
  have hth := hd.gn.thereAt i hi
  have hdn := hd.dn
  have hown := hd.own
  have hvd := hd.vd
  have hvn := hd.vn
  have hi0 : (0 : Int) ≤ (i : Int) := Int.natCast_nonneg _
  have hi1 : (i : Int) < (s.n : Int) := by omega
  have en : s.spent.n = s.n := rfl
  have el : s.spent.lo = s.lo := rfl
  rw [en] at hd0
  rw [el] at hown
  clear hd hk en el
  go_wp2_with (first
    | ((with_reducible refine wpl_build 95 _ _ (.int .i64 (i : Int)) _ ?_ (run_build_write i _) ?_); (· rfl))
    | (with_reducible refine wpl_alloc 95 _ (run_alloc_write _) ?_)
    | ((with_reducible refine wpl_store 95 _ _ (.pointer (some ⟨w1.heap.size, 0, none⟩)) (.agg (wcl (i, fun _ => 0)).toArray) ?_ ?_ (run_store_write _ _ _) ?_); (· rfl); (· rfl))
    | ((with_reducible refine wpl_copy _ _ 37 37 (.slice (some ⟨w1.heap.size, 1, none⟩) 64 64) (.slice a len cap) _ ?_ ?_ (run_copy_write w1 i a len cap f _ hl HR1.out) ?_); (· rfl); (· rfl)))
  generalize hpp : fill f len = p at *
  have HPP := hide hpp
  clear hpp
  have x0 : (w1.alloc (Obj.cells (wcl (i, p)).toArray 95)).cell? ⟨D, 0, none⟩ = some (.slice (some ⟨N, 0, none⟩) s.n s.n) := by rw [World.cell?_alloc_lt _ _ _ hD]; exact hd0
  have x2 : (w1.alloc (Obj.cells (wcl (i, p)).toArray 95)).cell? ⟨D, 2, none⟩ = some v := by rw [World.cell?_alloc_lt _ _ _ hD]; exact hd2
  have y2 : (w1.alloc (Obj.cells (wcl (i, p)).toArray 95)).frozen? ⟨D, 2, none⟩ = false := by rw [World.frozen?_alloc_past _ _ _ hD]; exact fd2
  have xh : (w1.alloc (Obj.cells (wcl (i, p)).toArray 95)).heap[w1.heap.size]? = some (.cells (wcl (i, p)).toArray 95 (0, 0)) := heap_alloc_last w1 _
  have xr : (w1.alloc (Obj.cells (wcl (i, p)).toArray 95)).rangeAt w1.heap.size 1 (valsOf p 64) := fun j v hv => by
    rw [cell_of_row _ _ _ _ _ _ xh, Nat.add_comm]
    simpa [wcl] using hv
  have xw : (w1.alloc (Obj.cells (wcl (i, p)).toArray 95)).rangeAt w1.heap.size 0 (wcl (i, p)) := fun j v hv => by
    rw [cell_of_row _ _ _ _ _ _ xh, Nat.zero_add]
    simpa using hv
  have xt := World.there_alloc hth (Obj.cells (wcl (i, p)).toArray 95)
  have xo := hown.alloc (Obj.cells (wcl (i, p)).toArray 95)
  have xs : (w1.alloc (Obj.cells (wcl (i, p)).toArray 95)).heap.size = w1.heap.size + 1 := by simp
  have XK : Hid (Keeps (fun b => b = D) w0 (w1.alloc (Obj.cells (wcl (i, p)).toArray 95))) := HK.out.alloc _
  have XD : Hid (DiskIn (w1.alloc (Obj.cells (wcl (i, p)).toArray 95)) D N L v s.spent) := HD.out.keeps (F := fun _ => False) ((Keeps.refl _ _).alloc _) (fun _ _ h => h)
  have HVL0 : Hid (∀ b, v.ownBlock = some b → b < w1.heap.size) := fun b hb => ownBlock_lt hown b hb
  clear hd0 hd2 fd2 hth hown HK HD HR1 HR xh
  generalize w1.alloc (Obj.cells (wcl (i, p)).toArray 95) = X at *
  have hle := XK.out.size
  have HVL : Hid (∀ b, v.ownBlock = some b → b ≠ w1.heap.size) := fun b hb e => by have := HVL0.out b hb; omega
  clear HVL0
  have hHD : w1.heap.size ≠ D := by omega
  have hHN : w1.heap.size ≠ N := by omega
  have hw01 : w0.heap.size ≤ w1.heap.size + 1 := by omega
  generalize w1.heap.size = HH1 at *
  have hu := Try.underlying93
  have hz : (Try.prog.info? 93).map (·.size) = some (valsOf p 64).length := by rw [Try.size93, valsOf_length]
  have hz2 : (valsOf p 64).length = 64 := valsOf_length _ _
  have hz3 := valsOf_one p 64
  generalize hcs : valsOf p 64 = cs at *
  have HCS := hide hcs
  clear hcs
  go_region_held3 (fun w' => w'.cell? ⟨D, 0, none⟩ = some (.slice (some ⟨N, 0, none⟩) s.n s.n) ∧ w'.rangeAt HH1 1 cs ∧ w'.there N (i * 64) 64)
    (first
      | go_keep_ranges
      | (go_split_ands
         refine ⟨?_, ?_, ?_⟩
         · (first | assumption | (simp only [World.cell?_drew]; assumption) | (rw [World.cell?_setCells_out _ _ _ _ _ (fun e _ => absurd e hdn)]; assumption))
         · (first | assumption | (simp only [World.rangeAt_drew]; assumption) | exact World.rangeAt_setCells_apart (by assumption) _ _ _ (.inl hHN))
         · (first | assumption | (simp only [World.there_drew]; assumption) | exact World.there_setCells (by assumption) _ _ _)))
    (fail)
  have hvh : v.ownBlock ≠ some HH1 := fun e => HVL.out _ e rfl
  have z2 : (X.drew.setCells N (i * 64) cs).cell? ⟨D, 2, none⟩ = some v := by rw [World.cell?_setCells_out _ _ _ _ _ (fun e _ => absurd e hdn)]; exact x2
  have u2 : (X.drew.setCells N (i * 64) cs).frozen? ⟨D, 2, none⟩ = false := by rw [World.frozen?_setCells]; exact y2
  have zr : (X.drew.setCells N (i * 64) cs).rangeAt HH1 0 (wcl (i, p)) := World.rangeAt_setCells_apart (World.rangeAt_drew _ _ _ _ |>.2 xw) _ _ _ (.inl hHN)
  have zs : (X.drew.setCells N (i * 64) cs).heap.size = HH1 + 1 := by rw [size_setCells]; exact xs
  have ZD : Hid (DiskIn (X.drew.setCells N (i * 64) cs) D N L v { s.spent with now := putPage s.spent.now i 64 p }) := by rw [← HCS.out]; exact XD.out.drew.storeNow i hi p
  have ZK : Hid (Keeps (fun b => b = D ∨ b = N) w0 (X.drew.setCells N (i * 64) cs)) := ((XK.out.mono (fun _ _ h => .inl h)).drew).setCells N _ _ (.inl (.inr rfl))
  clear x0 x2 y2 xw xs xt xo XK XD xr hz hz2 hz3 hu
  generalize X.drew.setCells N (i * 64) cs = Y at *
  go_wp2_with fail
  obtain ⟨i0, hi0', hz0, hz1, hz2⟩ := info_parts Try.info95
  have HI := hide hi0'
  have HZ := hide (And.intro hz0 (And.intro hz1 hz2))
  clear hi0' hz0 hz1 hz2
  have ho := ZD.out.own
  have hDs : D < HH1 + 1 := by omega
  go_region_with (first
    | ((unfold Kept; refine wp_append_lies _ _ _ _ (by rfl) 0 95 i0 _ 65 72 Try.underlying68 HI.out HZ.out.1 HZ.out.2.1 HZ.out.2.2 rfl (by omega) v s.lo.length (wrs s.lo) (by rfl) ((ho.alloc _).drew) ⟨HH1 + 1, 0, none⟩ 1 1 (wcl (i, p)) (by rfl) (wr_length _) (World.news_of_block (cs := (wcl (i, p)).toArray) (t := 95) (fr := (0, 0)) (by rw [← zs]; exact heap_alloc_new Y _)) (wr_one _) (by omega) (by unfold maxLen; omega) (by omega) (by omega) (HH1 + 1 + 1) (by simp [zs]) ?_; intro gg cp w2 hown2 hgrow hat hlt; have q2 := cell_grown hgrow zs hDs hvd z2; have f2 := frozen_grown hgrow zs hDs hvd u2))
    | ((refine kept_load_intro _ (.pointer (some ⟨HH1, 0, none⟩)) _ (by rfl) (write_load _ HH1 0 (i, p) (by simpa using zr)) ?_))
    | ((refine kept_build_intro _ (.agg (wcl (i, p)).toArray) _ (by rfl) (run_build_one (i, p) _) ?_)))
  all_goals (go_wp2; go_ret; refine ⟨rfl, .slice (some ⟨gg, 0, none⟩) (s.lo.length + 1) cp, ?_⟩; rw [HPP.out]; exact write_fin ZD.out ZK.out hm (i, p) hi hgrow hown2 hat zs)
end Go.Proofs.Ytbecchoidglaeaa
