/- Delta: its first loop. -/
import Derived.Test.YthigjonagbfbbaaDoorKAz
import Derived.Test.YthigjonagbfbbaaDoorKAt
import Derived.Test.YthigjonagbfbbaaDoorExF
import Derived.Test.YthigjonagbfbbaaDoorAnD
import Derived.Test.YthigjonagbfbbaaDoorKAl
import Derived.Test.YthigjonagbfbbaaDoorMix
import Derived.Test.YthigjonagbfbbaaDoorKAx
namespace Go.Proofs.YthigjonagbfbbaaDoor
open Go.RowKit
set_option maxRecDepth 100000

/-- An Update of what is gone. -/
def goneU (c : List (Nat × Int)) : Up := ⟨c, noAt, []⟩
section
variable {F : Fence} {P : Program} {a : Act} {w w' : World} {K : Act → World → Prop} {Q : Exit → Act → World → Prop} {dst : Option Tmp} {ty : TypeId} {pos : String} {after : Array Edge} {gd : Option (Nat × Bool)}
theorem keptU_buildIn (xs : Array (Nat × Operand)) : Oper.wpIn F 0 P { dst := dst, op := .build 57 xs, type := ty, pos := pos, after := after, guard := gd } a w K Q = KeptIn F P { dst := dst, op := .build 57 xs, type := ty, pos := pos, after := after, guard := gd } a w K Q := rfl
theorem keptU_bsIn (n : Nat) (xs : Array (Nat × Operand)) : Oper.wpIn F 0 P { dst := dst, op := .buildSlice 50 n xs, type := ty, pos := pos, after := after, guard := gd } a w K Q = KeptIn F P { dst := dst, op := .buildSlice 50 n xs, type := ty, pos := pos, after := after, guard := gd } a w K Q := rfl
theorem keptIn_build1 {t : TypeId} (hF : ∀ f, F.fn f) (i : Nat) (x : Operand) (p v : Value) (hx : a.eval x = p) (hr : (Instr.build t #[(i, p)]).run P w = .ok v w) (h : K (a.put dst v) w) : KeptIn F P { dst := dst, op := .build t #[(i, x)], type := ty, pos := pos, after := after, guard := gd } a w K Q :=
  keptIn_exec hF (by intro c e; cases e) (by
    have e : (#[(i, x)].map fun (i, x) => (i, a.eval x)) = #[(i, p)] := by simp [hx]
    unfold execOp
    simp only [e, Sem.run_bind, hr, Result.andThen_ok, Sem.run_pure]) h
theorem keptIn_bs1 {t : TypeId} (hF : ∀ f, F.fn f) (x : Operand) (p v : Value) (hx : a.eval x = p) (hr : (Instr.buildSlice t 1 #[(0, p)]).run P w = .ok v w') (h : K (a.put dst v) w') : KeptIn F P { dst := dst, op := .buildSlice t 1 #[(0, x)], type := ty, pos := pos, after := after, guard := gd } a w K Q :=
  keptIn_exec hF (by intro c e; cases e) (by
    have e : (#[(0, x)].map fun (i, x) => (i, a.eval x)) = #[(0, p)] := by simp [hx]
    unfold execOp
    simp only [e, Sem.run_bind, hr, Result.andThen_ok, Sem.run_pure]) h
end
section
variable {P : Program} {a : Act} {w w' : World} {K : Act → World → Prop} {Q : Exit → Act → World → Prop} {dst : Option Tmp} {ty : TypeId} {pos : String} {after : Array Edge} {gd : Option (Nat × Bool)}
theorem wp_exec {o : Oper} {v : Value} (hr : (execOp a.eval o).run P w = .ok (.value v) w') (h : K (a.put o.dst v) w') : Oper.wp P o a w K Q := by
  unfold Oper.wp
  rw [hr]
  exact h
theorem exec_build2 {ρ : Operand → Value} {t : TypeId} (i j : Nat) (x y : Operand) (p q v : Value) (hx : ρ x = p) (hy : ρ y = q) (hr : (Instr.build t #[(i, p), (j, q)]).run P w = .ok v w) : (execOp ρ { dst := dst, op := .build t #[(i, x), (j, y)], type := ty, pos := pos, after := after, guard := gd }).run P w = .ok (.value v) w := by
  have e : (#[(i, x), (j, y)].map fun (i, x) => (i, ρ x)) = #[(i, p), (j, q)] := by simp [hx, hy]
  unfold execOp
  simp only [e, Sem.run_bind, hr, Result.andThen_ok, Sem.run_pure]
theorem exec_bs1 {ρ : Operand → Value} {t : TypeId} (x : Operand) (p v : Value) (hx : ρ x = p) (hr : (Instr.buildSlice t 1 #[(0, p)]).run P w = .ok v w') : (execOp ρ { dst := dst, op := .buildSlice t 1 #[(0, x)], type := ty, pos := pos, after := after, guard := gd }).run P w = .ok (.value v) w' := by
  have e : (#[(0, x)].map fun (i, x) => (i, ρ x)) = #[(0, p)] := by simp [hx]
  unfold execOp
  simp only [e, Sem.run_bind, hr, Result.andThen_ok, Sem.run_pure]
theorem exec_append {ρ : Operand → Value} {t : TypeId} (x y : Operand) (p q v : Value) (hx : ρ x = p) (hy : ρ y = q) (hr : (Builtin.append_ #[t, t] ty #[p, q]).run P w = .ok v w') : (execOp ρ { dst := dst, op := .call { callee := .builtin .append, args := #[x, y], argTypes := #[t, t] }, type := ty, pos := pos, after := after, guard := gd }).run P w = .ok (.value v) w' := by
  simp [execOp, resolve, invoke, builtin, hx, hy, hr, Result.andThen]
theorem exec_loadv {ρ : Operand → Value} {t : TypeId} (x : Operand) (p v : Value) (hx : ρ x = p) (hr : (Instr.loadAt t p).run P w = .ok v w) : (execOp ρ { dst := dst, op := .load t x, type := ty, pos := pos, after := after, guard := gd }).run P w = .ok (.value v) w := by
  unfold execOp
  simp only [hx, Sem.run_bind, hr, Result.andThen_ok, Sem.run_pure]
theorem keptTIn_alloc (F : Fence) : Oper.wpIn F 0 P { dst := dst, op := .alloc 54, type := ty, pos := pos, after := after, guard := gd } a w K Q = KeptIn F P { dst := dst, op := .alloc 54, type := ty, pos := pos, after := after, guard := gd } a w K Q := rfl
theorem keptTIn_store (F : Fence) (x y : Operand) : Oper.wpIn F 0 P { dst := dst, op := .store 54 x y, type := ty, pos := pos, after := after, guard := gd } a w K Q = KeptIn F P { dst := dst, op := .store 54 x y, type := ty, pos := pos, after := after, guard := gd } a w K Q := rfl
end
theorem own_ge {w : World} {B e size n : Nat} {v : Value} {xs : List Value} (h : w.ownsRow B e size v n xs) (k : Nat) (hk : v.ownBlock = some k) : B ≤ k ∧ k < w.heap.size := by
  rcases h.2 with ⟨rfl, _⟩ | ⟨g, cap, cur, rfl, hg, hc, rest⟩
  · simp [Value.ownBlock] at hk
  · simp [Value.ownBlock] at hk
    subst hk
    exact ⟨hg, (Array.getElem?_eq_some_iff.1 hc).1⟩
theorem run_buildT (g : Addr) (pa : Option Addr) (pc : Nat) (ca : Option Addr) (cc : Nat) (ra : Option Addr) (rc : Nat) (a : At) (w : World) : (Instr.build 57 #[(1, .agg (atC pa pc ca cc ra rc a)), (2, .slice (some g) 1 1)]).run Tryd.prog w = .ok (.agg (upC (.slice none 0 0) (.slice (some g) 1 1) (atC pa pc ca cc ra rc a)).toArray) w := by kernel_rfl
theorem run_callO (ρ : Operand → Value) (x : Operand) (v : Value) {dst : Option Tmp} {ty : TypeId} {pos : String} {after : Array Edge} (w : World) (hf : ρ (.func 38) = .func (.func 38) #[] #[]) (hx : ρ x = v) : (execOp ρ { dst := dst, op := .call { callee := .value (.func 38), args := #[x], argTypes := #[34] }, type := ty, pos := pos, after := after, guard := none }).run Tryd.prog w = .ok (.enter 38 #[v]) w := by
  unfold execOp
  simp [resolve, invoke, hf, hx, go_sem]
theorem call_own {a : Act} {w : World} {K : Act → World → Prop} {Q : Exit → Act → World → Prop} {dst : Option Tmp} {ty : TypeId} {pos : String} {after : Array Edge} (x : Operand) (v : Value) (hx : a.eval x = v) (h : Calls Tryd.prog 38 #[v] w fun e w' => ∃ u, e = .returned u ∧ K (a.put dst u) w') :
    Oper.wp Tryd.prog { dst := dst, op := .call { callee := .value (.func 38), args := #[x], argTypes := #[34] }, type := ty, pos := pos, after := after, guard := none } a w K Q := by
  unfold Oper.wp
  rw [run_callO a.eval x v w rfl hx]
  refine Calls.mono h ?_
  rintro _ w' ⟨u, rfl, hk⟩
  exact hk
theorem run_bsP (A : Nat) (L : Int) (w : World) : (Instr.buildSlice 55 1 #[(0, pfV A L)]).run Tryd.prog w = .ok (.slice (some ⟨w.heap.size, 0, none⟩) 1 1) (w.alloc (.cells #[.int .u32 (A : Int), .int .i64 L] 29)) := by kernel_rfl
theorem run_buildG (a : Option Addr) (n c : Nat) (w : World) : (Instr.build 57 #[(0, .slice a n c)]).run Tryd.prog w = .ok (.agg (upC (.slice a n c) (.slice none 0 0) zA).toArray) w := by kernel_rfl
theorem run_bsU (gv nv : Value) (pa : Option Addr) (pc : Nat) (ca : Option Addr) (cc : Nat) (ra : Option Addr) (rc : Nat) (a : At) (w : World) : (Instr.buildSlice 50 1 #[(0, .agg (upC gv nv (atC pa pc ca cc ra rc a)).toArray)]).run Tryd.prog w = .ok (.slice (some ⟨w.heap.size, 0, none⟩) 1 1) (w.alloc (.cells (upC gv nv (atC pa pc ca cc ra rc a)).toArray 57)) := by kernel_rfl
/-- An Update of what is told. -/
def tellU (f : Array Value → At) (t : Tl) : Up := ⟨[], f t.C, [(t.A, t.L)]⟩
def deltaU (old fresh : List Tl) (f : Array Value → At) : List Up := (hunds (goneL old fresh)).map goneU ++ (newL old fresh f).map (tellU f)
/-- What Delta answers. -/
def DeltaIs (N : Nat) (w' : World) (v : Value) (us : List Up) : Prop := ∃ cs : List (List Value), cs.length = us.length ∧ w'.ownsRow N 57 9 v us.length cs.flatten ∧ ∀ (i : Nat) (u : Up) (c : List Value), us[i]? = some u → cs[i]? = some c → UpAt N u c w'
theorem UpsI.delta {N L : Nat} {us : List Up} {He : Nat → Prop} {v : Value} {cs : List (List Value)} {W : World} (h : UpsI N L us He v cs W) : DeltaIs N W v us := ⟨cs, h.len, h.row, h.each.here⟩
theorem own_noAt (W : World) (N : Nat) : OwnAt W N none 0 none 0 none 0 noAt := ⟨OwnPath.nil _ _, own_nil _ _ _ _, OwnRaws.nil _ _⟩
theorem hund_len {α : Type} (l : List α) : (hund l).1.length ≤ l.length := by
  have key : ∀ m : List α, (hund m.reverse).1.length ≤ m.length := by
    intro m
    induction m with
    | nil => simp [hund]
    | cons x m ih =>
      rw [List.reverse_cons, hund_snoc]
      unfold hundS
      split
      · simp; omega
      · simp; omega
  have := key l.reverse
  rw [List.reverse_reverse, List.length_reverse] at this
  exact this
theorem hunds_len {α : Type} (l : List α) : (hunds l).length ≤ l.length + 1 := by
  have := hund_len l
  unfold hunds lastH
  split <;> simp <;> omega
theorem goneL_len (old fresh : List Tl) : (goneL old fresh).length ≤ old.length := by
  unfold goneL
  rw [List.length_map]
  exact List.length_filter_le _ _
theorem newL_len (old fresh : List Tl) (f : Array Value → At) : (newL old fresh f).length ≤ fresh.length := List.length_filter_le _ _
theorem four_bks (w : World) (c0 c1 c2 c3 : Array Value) (t0 t1 t2 t3 : TypeId) : let W := (((w.alloc (.cells c0 t0)).alloc (.cells c1 t1)).alloc (.cells c2 t2)).alloc (.cells c3 t3)
    Bk t0 W w.heap.size c0 ∧ Bk t1 W (w.heap.size + 1) c1 ∧ Bk t2 W (w.heap.size + 2) c2 ∧ Bk t3 W (w.heap.size + 3) c3 ∧ W.heap.size = w.heap.size + 4 ∧ Below w.heap.size w W := by
  intro W
  have s1 : (w.alloc (.cells c0 t0)).heap.size = w.heap.size + 1 := by simp
  have s2 : ((w.alloc (.cells c0 t0)).alloc (.cells c1 t1)).heap.size = w.heap.size + 2 := by simp
  have s3 : (((w.alloc (.cells c0 t0)).alloc (.cells c1 t1)).alloc (.cells c2 t2)).heap.size = w.heap.size + 3 := by simp
  refine ⟨(((Bk.new t0 w c0).alloc _).alloc _).alloc _, ?_, ?_, ?_, by simp [W], ((((Below.refl _ _).alloc (Nat.le_refl _) _).alloc (by omega) _).alloc (by omega) _).alloc (by omega) _⟩
  · have := ((Bk.new t1 (w.alloc (.cells c0 t0)) c1).alloc (.cells c2 t2)).alloc (.cells c3 t3)
    rwa [s1] at this
  · have := (Bk.new t2 ((w.alloc (.cells c0 t0)).alloc (.cells c1 t1)) c2).alloc (.cells c3 t3)
    rwa [s2] at this
  · have := Bk.new t3 (((w.alloc (.cells c0 t0)).alloc (.cells c1 t1)).alloc (.cells c2 t2)) c3
    rwa [s3] at this
section
attribute [local go_sem] Oper.semAt_some
attribute [local go_sem ↓] keptIn_append keptU_buildIn keptU_bsIn keptTIn_alloc keptTIn_store
set_option maxHeartbeats 3200000 in
theorem delta_any (oa fa : Option Addr) (oc fc : Nat) (old fresh : List Tl) (f : Array Value → At) (w : World) (ho : old.length ≤ 10000) (hf : fresh.length ≤ 10000) (hor : TlsRd w oa old) (hfr : TlsRd w fa fresh) (hoa : ∀ t ∈ old, CellAt w f t.C) (hfa : ∀ t ∈ fresh, CellAt w f t.C) :
    Calls Tryd.prog 17 #[.slice oa old.length oc, .slice fa fresh.length fc] w fun e w' => ∃ v, e = .returned v ∧ DeltaIs w.heap.size w' v (deltaU old fresh f) ∧ Below w.heap.size w w' := by
  have HOR := hide hor
  have HFR := hide hfr
  have HOA := hide hoa
  have HFA := hide hfa
  have HO := hide ho
  have HF := hide hf
  clear hor hfr hoa hfa ho hf
  refine (callsIn_wide (n := 0)).1 (callsIn_of_wp_marks Tryd.func17 rfl trivial ((wpIn_wide (n := 0)).2 ?_) rfl)
  simp only [Tryd.ntmps17, List.size_toArray, List.length_cons, List.length_nil, Nat.reduceAdd, Nat.reduceSub, Array.replicate_succ, Array.replicate_zero, List.push_toArray, List.append_toArray, List.nil_append, List.cons_append]
  go_wp2_with fail
  refine (without_any oa fa _ oc _ fc _).mono ?_
  rintro e w2 ⟨rfl, rfl⟩
  go_wp2_with fail
  refine (hundreds_any _ _ _).mono ?_
  rintro e w3 ⟨rfl, hw3⟩
  obtain ⟨b0, b1, b2, b3, hs3, hbb⟩ := four_bks w #[.slice none 0 0] #[.slice oa old.length oc] #[.slice fa fresh.length fc] #[.func (.func 51) #[] #[.pointer (some ⟨w.heap.size + 2, 0, none⟩), .pointer (some ⟨w.heap.size + 1, 0, none⟩)]] 50 48 48 87
  have e3 : w3 = (((w.alloc (.cells #[.slice none 0 0] 50)).alloc (.cells #[.slice oa old.length oc] 48)).alloc (.cells #[.slice fa fresh.length fc] 48)).alloc (.cells #[.func (.func 51) #[] #[.pointer (some ⟨w.heap.size + 2, 0, none⟩), .pointer (some ⟨w.heap.size + 1, 0, none⟩)]] 87) := by rw [hw3]
  rw [← e3] at b0 b1 b2 b3 hs3 hbb
  have HL3 := hide b0
  have HY3 := hide b1
  have HX3 := hide b2
  have HZ3 := hide b3
  have HB3 := hide hbb
  have es : ((((w.alloc (.cells #[.slice none 0 0] 50)).alloc (.cells #[.slice oa old.length oc] 48)).alloc (.cells #[.slice fa fresh.length fc] 48))).heap.size = w.heap.size + 3 := by simp
  rw [es]
  clear hw3 e3 es b0 b1 b2 b3 hbb
  have HG := hide (without_goes oa fa oc fc (w.heap.size + 2) (w.heap.size + 1) w.heap.size old fresh w w3 rfl HB3.out (by have := HO.out; omega) (by have := HF.out; omega) HOR.out HFR.out (HX3.out.cell 0 rfl) (HY3.out.cell 0 rfl))
  have HG2 := hide (hundreds_goes 51 _ (enters_of Tryd.func51 (by kernel_rfl) rfl) (goneL old fresh) _ w3 w3 w.heap.size (w.heap.size + 3) HG.out (Keeps.refl _ _) (fun k hk => by
    rcases hk with h | h | h <;> omega) (by omega) (HZ3.out.cell 0 rfl))
  go_wp2_with fail
  refine (wpIn_wide (n := 0)).1 (wpIn_rangeAll (gf := 50) (lb := #[.pointer (some ⟨w.heap.size + 3, 0, none⟩)]) rfl (enters_of Tryd.func50 (by kernel_rfl) rfl) HG2.out (Keeps.refl _ _) (fun k hk => by
    rcases hk with (h | h | h) | h <;> omega) rfl (fun pre H W => UpsJ w.heap.size w.heap.size (pre.map goneU) H W) (UpsJ.held _) (UpsH w.heap.size (fun _ => False) (.slice none 0 0)) ?_ ?_ ?round ?done)
  · rintro k hk hn
    rcases hk with h | h | h
    · exact h
    · rcases hn with (h1 | h1 | h1) | h1 <;> omega
    · cases h
  · exact ⟨fun _ => False, .slice none 0 0, [], fun k => Iff.rfl, rfl, HL3.out, own_nil _ _ _ _, (fun W' _ i u c h => by simp at h), fun h => h, (fun k h => by cases h), fun k h => h.elim⟩
  case round =>
    clear HL3 HX3 HY3 HZ3 HG HG2
    rintro l9 pre x v9 G Hc W9 hx ⟨He, v, cs, hH, hi⟩ _ ⟨hrow, hG1⟩ hG hl hGl hlt _
    obtain ⟨a9, c9, rfl⟩ := own_shape hrow
    have hpl : pre.length ≤ 10001 := by
      obtain ⟨rest, e⟩ := hx
      have h1 := hunds_len (goneL old fresh)
      have h2 := goneL_len old fresh
      have h3 := HO.out
      rw [e] at h1
      simp at h1
      omega
    have hl1 : ¬ UpsH w.heap.size He v l9 := fun h => hl ((hH _).2 h)
    have HI := hide hi
    have HH := hide hH
    have HROW := hide hrow
    have HG1 := hide hG1
    have HGN := hide hG
    clear hi hH hrow hG1 hG hx hl
    gi_wp2
    refine ⟨Keeps.refl _ _, fun o => ?_⟩
    have HI2 := hide (HI.out.stays ((Keeps.refl _ W9).putObj l9 o (.inl hl1)))
    have HR2 : Hid ((W9.putObj l9 o).ownsRow w.heap.size 29 2 (.slice a9 x.length c9) x.length (pcs x)) := own_stands HROW.out (fun k e => World.putObj_heap_other (fun e1 => hGl ((HG1.out _).2 (by rw [← e1]; exact e))))
    have hs9 : (W9.putObj l9 o).heap.size = W9.heap.size := by simp
    have hNW : w.heap.size < W9.heap.size := HI.out.box.lt
    have HLT : Hid (∀ k, (Value.slice a9 x.length c9).ownBlock = some k → k < W9.heap.size) := fun k e => by
      obtain ⟨cur, hc⟩ := own_blk HROW.out k e
      exact (Array.getElem?_eq_some_iff.1 hc).1
    clear HI hl1 HROW
    generalize W9.putObj l9 o = Wb at *
    obtain ⟨b, q, w5, hrun, box5, i6, k6, hob⟩ := ups_add (Hn := fun k => (Value.slice a9 x.length c9).ownBlock = some k) HI2.out (by omega) (by simp; omega) (goneU x) (upC (.slice a9 x.length c9) (.slice none 0 0) (atC none 0 none 0 none 0 noAt)) (fun W2 h2 => ⟨_, _, _, _, _, _, _, _, rfl, own_stands HR2.out (fun k e => h2.block k (by rw [hs9]; exact HLT.out k e) (fun h => h e)), own_nil _ _ _ _, own_noAt _ _⟩) (fun h => own_not_bk HR2.out HI2.out.box (by decide) h) (fun k e h => HGN.out k ((HG1.out k).2 h) ((HH.out k).2 (.inr (.inr e)))) (fun k e => by rw [hs9]; exact HLT.out k e)
    rw [hs9] at hrun
    simp only [List.length_map] at hrun i6 k6 hob
    have HRUN := hide hrun
    have HB5 := hide box5
    have HI6 := hide i6
    have HK6 := hide k6
    have HOB := hide hob
    clear hrun box5 i6 k6 hob
    have cL : Wb.cell? ⟨w.heap.size, 0, none⟩ = some v := HI2.out.box.cell 0 rfl
    have cL5 : w5.cell? ⟨w.heap.size, 0, none⟩ = some v := HB5.out.cell 0 rfl
    have fL5 : w5.frozen? ⟨w.heap.size, 0, none⟩ = false := HB5.out.frozen 0
    gi_wp2
    refine keptIn_build1 (fun _ => trivial) _ _ _ _ (by rfl) (run_buildG a9 x.length c9 Wb) ?_
    gi_wp2
    refine keptIn_bs1 (fun _ => trivial) _ _ _ (by rfl) (run_bsU (.slice a9 x.length c9) (.slice none 0 0) none 0 none 0 none 0 noAt Wb) ?_
    gi_wp2
    refine keptIn_append_intro (fun _ => trivial) _ _ _ _ _ (by rfl) (by rfl) HRUN.out ?_
    gi_wp2
    refine ⟨UpsH w.heap.size (fun k => He k ∨ (Value.slice a9 x.length c9).ownBlock = some k) (.slice b (pre.length + 1) q), ⟨(fun k => He k ∨ (Value.slice a9 x.length c9).ownBlock = some k), .slice b (pre.length + 1) q, cs ++ [upC (.slice a9 x.length c9) (.slice none 0 0) (atC none 0 none 0 none 0 noAt)], fun k => Iff.rfl, ?_⟩, ?_, ?_⟩
    · rw [List.map_append]
      exact HI6.out
    · exact HK6.out.mono (fun k _ hk => .inl ((HH.out k).2 (.inr hk)))
    · rintro k ((h | h) | h | h)
      · exact .inl ((HH.out k).2 (.inl h))
      · exact .inr (.inl ((HG1.out k).2 h))
      · exact .inl ((HH.out k).2 (.inr (.inl h)))
      · rcases HOB.out k h with h1 | h1
        · exact .inl ((HH.out k).2 (.inr (.inr h1)))
        · exact .inr (.inr (by omega))
  case done =>
    clear HL3 HX3 HY3 HZ3 HG HG2
    rintro D H' W9 hD hI hk hs hnD hd
    have HI := hide hI
    have HK := hide hk
    have HS := hide hs
    have HND := hide hnD
    have HD := hide hd
    have HB9 : Hid (Below w.heap.size w W9) := HB3.out.trans (hk.below _ (by omega) (fun b h => by
      rcases h with h | h | h
      · exact h.elim
      · omega
      · cases h))
    have HSN : Hid (∀ k, H' k → w.heap.size ≤ k) := fun k h => by
      rcases hs k h with (h | h | h) | h
      · exact h.elim
      · omega
      · cases h
      · omega
    have HLT : Hid (∀ k, H' k → k < W9.heap.size) := (UpsJ.held (N := w.heap.size) (L := w.heap.size) (fun pre : List (List (Nat × Int)) => pre.map goneU)).lt hI
    have hDL : D < W9.heap.size := (Array.getElem?_eq_some_iff.1 hd).1
    clear hI hk hs hnD hd
    go_wp2_with fail
    refine (unlike_any oa fa _ oc _ fc _).mono ?_
    rintro e w2 ⟨rfl, hw2⟩
    have HX2 : Hid (Bk 48 w2 W9.heap.size #[.slice oa old.length oc]) := by show Bk _ _ _ _; rw [hw2]; exact (Bk.new 48 W9 _).alloc _
    have HY2 : Hid (Bk 48 w2 (W9.heap.size + 1) #[.slice fa fresh.length fc]) := by show Bk _ _ _ _; rw [hw2]; have := Bk.new 48 (W9.alloc (.cells #[.slice oa old.length oc] 48)) #[.slice fa fresh.length fc]; rwa [World.size_alloc] at this
    have hs2 : w2.heap.size = W9.heap.size + 2 := by rw [hw2]; simp
    have HK2 : Hid (Keeps (fun _ => False) W9 w2) := by show Keeps _ _ _; rw [hw2]; exact ((Keeps.refl _ _).alloc _).alloc _
    have HB2 : Hid (Below w.heap.size w w2) := by show Below _ _ _; rw [hw2]; exact (HB9.out.alloc HB9.out.size _).alloc (by have := HB9.out.size; simp; omega) _
    clear hw2
    have HG := hide (unlike_goes oa fa oc fc W9.heap.size (W9.heap.size + 1) w.heap.size old fresh f w w2 rfl HB2.out (by have := HO.out; omega) (by have := HF.out; omega) HOR.out HFR.out HOA.out HFA.out (HX2.out.cell 0 rfl) (HY2.out.cell 0 rfl))
    go_wp2_with fail
    refine (wpIn_wide (n := 0)).1 (wpIn_rangeAll (gf := 53) (lb := #[.pointer (some ⟨W9.heap.size, 0, none⟩), .pointer (some ⟨W9.heap.size + 1, 0, none⟩)]) rfl (enters_of Tryd.func53 (by kernel_rfl) rfl) HG.out (Keeps.refl _ _) (fun k hk => by
      have := HB9.out.size
      rcases hk with h | h | h <;> omega) rfl (fun pre H W => UpsJ w.heap.size w.heap.size ((hunds (goneL old fresh)).map goneU ++ pre.map (tellU f)) H W) (UpsJ.held _) H' ?_ ?_ ?round2 ?done2)
    · rintro k hk hn
      have h1 := HSN.out k hk
      have h2 := HLT.out k hk
      rcases hn with h | h | h <;> omega
    · have := (UpsJ.held (N := w.heap.size) (L := w.heap.size) (fun pre : List (List (Nat × Int)) => pre.map goneU)).stays HI.out (HK2.out.mono (fun _ _ h => h.elim))
      simpa using this
    case round2 =>
      clear HX2 HY2 HG HD HI HK HS
      rintro l9 pre x v9 G Hc W8 hx ⟨He, v, cs, hH, hi⟩ hkw ⟨rfl, hG0⟩ hG hl hGl hlt hwl
      have hxm : x ∈ newL old fresh f := by
        obtain ⟨rest, e⟩ := hx
        rw [e]
        simp
      have hxf : x ∈ fresh := (List.mem_filter.1 hxm).1
      have hpl : pre.length ≤ 10000 := by
        obtain ⟨rest, e⟩ := hx
        have h1 := newL_len old fresh f
        have h3 := HF.out
        rw [e] at h1
        simp at h1
        omega
      have hql : (hunds (goneL old fresh)).length ≤ 10001 := by
        have h1 := hunds_len (goneL old fresh)
        have h2 := goneL_len old fresh
        have h3 := HO.out
        omega
      have HAC := hide (HFR.out.2 x hxf)
      have HCA := hide (HFA.out x hxf)
      have hl1 : ¬ UpsH w.heap.size He v l9 := fun h => hl ((hH _).2 h)
      have HI := hide hi
      have HH := hide hH
      have hLW : w.heap.size < W8.heap.size := hi.box.lt
      have HBW : Hid (Below w.heap.size w W8) := HB2.out.trans (hkw.below _ HB2.out.size (fun b h => HSN.out b h))
      have hNl : w.heap.size ≤ l9 := by have := HB2.out.size; omega
      clear hi hH hG hG0 hGl hl hx hxm hxf hkw hwl
      gi_wp2
      refine keptIn_alloc (fun _ => trivial) _ (run_allocT _) ?_
      gi_wp2
      refine keptIn_store (fun _ => trivial) _ _ _ (.agg (tlC x)) (by rfl) (by rfl) ((Bk.new 54 W8 zT).store 54 (tlC_ok HAC.out).1 (by rw [infoT, (tlC_ok HAC.out).1]) (tlC_ok HAC.out).2) ?_
      gi_wp2
      have hkA : Keeps (fun _ => False) W8 ((W8.alloc (.cells zT 54)).setCells W8.heap.size 0 (tlC x).toList) := ((Keeps.refl _ W8).alloc _).setCells _ _ _ (.inr (Nat.le_refl _))
      refine ⟨hkA, fun o => ?_⟩
      have hkB : Keeps (fun k => k = l9) W8 (((W8.alloc (.cells zT 54)).setCells W8.heap.size 0 (tlC x).toList).putObj l9 o) := (hkA.mono (fun _ _ h => h.elim)).putObj l9 o (.inl rfl)
      have HI2 := hide (HI.out.stays (hkB.mono (fun k _ h h2 => hl1 (by rw [← h]; exact h2))))
      have HX2 : Hid (Bk 54 (((W8.alloc (.cells zT 54)).setCells W8.heap.size 0 (tlC x).toList).putObj l9 o) W8.heap.size (tlC x)) := ((Bk.new 54 W8 zT).put (C := tlC x) (tlC_ok HAC.out).1).keeps (F := fun k => k = l9) ((Keeps.refl _ _).putObj l9 o (.inl rfl)) (fun e => by omega)
      have HBB : Hid (Below w.heap.size w (((W8.alloc (.cells zT 54)).setCells W8.heap.size 0 (tlC x).toList).putObj l9 o)) := HBW.out.trans (hkB.below _ HBW.out.size (fun b h => by omega))
      have hs8 : (((W8.alloc (.cells zT 54)).setCells W8.heap.size 0 (tlC x).toList).putObj l9 o).heap.size = W8.heap.size + 1 := by rw [World.putObj_size, size_puts, World.size_alloc]
      clear HI hl1 hkA hkB HBW
      generalize ((W8.alloc (.cells zT 54)).setCells W8.heap.size 0 (tlC x).toList).putObj l9 o = Wb at *
      have HS8 := hide hs8
      clear hs8
      generalize hX : W8.heap.size = X at *
      have HXE := hide hX
      clear hX
      gi_wp2_with fail
      rw [show ∀ (a : Act) (v : Value), a.put none v = a from fun _ _ => rfl]
      obtain ⟨pa, pc, ca, cc, ra, rc, hxC, hrd, hsz⟩ := HCA.out
      have HXC := hide hxC
      have HRD := hide (hrd.below HBB.out)
      have HSZ := hide hsz
      clear hxC hrd hsz
      have hS : ∀ W, Below Wb.heap.size Wb W → Bk 50 W w.heap.size #[v] ∧ Bk 54 W X (tlC x) := fun W h => ⟨HI2.out.box.below h HI2.out.box.lt, HX2.out.below h HX2.out.lt⟩
      have hbD : Below Wb.heap.size Wb Wb.drew := (Below.refl _ _).drew
      refine regionIn_of_any (by kernel_rfl) (fun a w h => h) (by kernel_rfl) ?_
      refine wpAny_of_D (S := fun W => Bk 50 W w.heap.size #[v] ∧ Bk 54 W X (tlC x)) (d := 10) 11 _ _ _ ?_
      refine anyD_q (i := 0) (v := v) (by kernel_rfl) (by rfl) (by rfl) (fun w9 h9 => (by
        have d0 := h9.1.cell 0 rfl
        clear h9
        go_simp; first | done | rfl)) (by go_simp; first | done | rfl) (hS _ hbD) ?_
      refine anyD_q (i := 1) (by kernel_rfl) (by rfl) (by rfl) (fun w9 h9 => (by
        clear h9
        go_simp; first | done | rfl)) (by go_simp; first | done | rfl) (hS _ hbD) ?_
      refine anyD_q (i := 2) (by kernel_rfl) (by rfl) (by rfl) (fun w9 h9 => exec_loadv _ _ (.agg x.C) (by rfl) (h9.2.load 2 34 _ x.C.toList tl_split Tryd.underlying34 rfl (by rw [infoA]; simp [HAC.out.1]) _ (by simp))) (by go_simp; first | done | rfl) (hS _ hbD) ?_
      refine anyD_q (i := 4) (by kernel_rfl) (by rfl) (by rfl) (fun w9 h9 => (by
        clear h9
        go_simp; first | done | rfl)) (by go_simp; first | done | rfl) (hS _ hbD) ?_
      refine anyD_q (i := 5) (v := pfV x.A x.L) (by kernel_rfl) (by rfl) (by rfl) (fun w9 h9 => (by
        have d0 := h9.2.cell 0 (tlC_0 x)
        have d1 := h9.2.cell 1 (tlC_1 x)
        clear h9
        go_simp; first | done | rfl)) (by go_simp; first | done | rfl) (hS _ hbD) ?_
      refine anyD_two (x := 3) (y := 6) (dx := 25) (dy := 28) (ix := 24) (iy := 27) (f := 4)
        (fun W => Below Wb.heap.size Wb W)
        (fun v W => ∃ pa pc ca cc ra rc, v = .agg (atC pa pc ca cc ra rc (f x.C)) ∧ OwnAt W Wb.heap.size pa pc ca cc ra rc (f x.C) ∧ Below Wb.heap.size Wb W)
        (fun u W => ∃ g, u = .slice (some g) 1 1 ∧ W.ownsRow Wb.heap.size 29 2 (.slice (some g) 1 1) 1 (pcs [(x.A, x.L)]) ∧ Below Wb.heap.size Wb W)
        (fun v u W => ∃ pa pc ca cc ra rc g, v = .agg (atC pa pc ca cc ra rc (f x.C)) ∧ u = .slice (some g) 1 1 ∧ OwnAt W Wb.heap.size pa pc ca cc ra rc (f x.C) ∧ W.ownsRow Wb.heap.size 29 2 (.slice (some g) 1 1) 1 (pcs [(x.A, x.L)]) ∧ Below Wb.heap.size Wb W)
        (by rfl) (by rfl) (by decide) (by decide) (by decide) rfl rfl (by decide) (by kernel_rfl) (by kernel_rfl) (by kernel_rfl) hbD ?sx0 ?sy0 ?sx1 ?sy1 ?hS1 ?hS2 ?hS3 ?fin
      case sx0 =>
        intro b w1 hb24 hb K hK
        have hc := ownA_any pa pc ca cc ra rc (f x.C) w1 HSZ.out (HRD.out.below hb)
        rw [← HXC.out] at hc
        refine call_own _ (.agg x.C) (slot_eval (hb24.trans (by rfl))) (hc.mono ?_)
        rintro e w5 ⟨pa9, pc9, ca9, cc9, ra9, rc9, rfl, ho, hb5⟩
        exact ⟨_, rfl, hK _ w5 ⟨pa9, pc9, ca9, cc9, ra9, rc9, rfl, ho.base hb.size, hb.trans (hb5.mono hb.size)⟩⟩
      case sy0 =>
        intro b w1 hb27 hb K hK
        refine wp_exec (exec_bs1 _ (pfV x.A x.L) _ (slot_eval (hb27.trans (by rfl))) (run_bsP x.A x.L _)) ?_
        exact hK _ _ ⟨_, rfl, own_made w1 Wb.heap.size 29 2 #[.int .u32 (x.A : Int), .int .i64 x.L] 1 hb.size rfl (by omega), hb.alloc hb.size _⟩
      case sx1 =>
        rintro b u w1 hb24 ⟨g, rfl, hr, hb⟩ K hK
        have hc := ownA_any pa pc ca cc ra rc (f x.C) w1 HSZ.out (HRD.out.below hb)
        rw [← HXC.out] at hc
        refine call_own _ (.agg x.C) (slot_eval (hb24.trans (by rfl))) (hc.mono ?_)
        rintro e w5 ⟨pa9, pc9, ca9, cc9, ra9, rc9, rfl, ho, hb5⟩
        exact ⟨_, rfl, hK _ w5 ⟨pa9, pc9, ca9, cc9, ra9, rc9, g, rfl, rfl, ho.base hb.size, own_later hr hb5, hb.trans (hb5.mono hb.size)⟩⟩
      case sy1 =>
        rintro b v1 w1 hb27 ⟨pa9, pc9, ca9, cc9, ra9, rc9, rfl, ho, hb⟩ K hK
        refine wp_exec (exec_bs1 _ (pfV x.A x.L) _ (slot_eval (hb27.trans (by rfl))) (run_bsP x.A x.L _)) ?_
        exact hK _ _ ⟨pa9, pc9, ca9, cc9, ra9, rc9, _, rfl, rfl, ho.later ((Below.refl _ _).alloc (Nat.le_refl _) _), own_made w1 Wb.heap.size 29 2 #[.int .u32 (x.A : Int), .int .i64 x.L] 1 hb.size rfl (by omega), hb.alloc hb.size _⟩
      case hS1 =>
        rintro v1 w1 ⟨pa9, pc9, ca9, cc9, ra9, rc9, rfl, ho, hb⟩
        exact hS _ hb
      case hS2 =>
        rintro v1 w1 ⟨g, rfl, hr, hb⟩
        exact hS _ hb
      case hS3 =>
        rintro v1 u w1 ⟨pa9, pc9, ca9, cc9, ra9, rc9, g, rfl, rfl, ho, hr, hb⟩
        exact hS _ hb
      case fin =>
        rintro v1 u w6 ⟨pa9, pc9, ca9, cc9, ra9, rc9, g, rfl, rfl, ho, hr, hb⟩
        have hi6 := HI2.out.stays (Keeps.of_below hb _)
        have hlen : ((hunds (goneL old fresh)).map goneU ++ pre.map (tellU f)).length = (hunds (goneL old fresh)).length + pre.length := by simp
        have hLX : w.heap.size < Wb.heap.size := by rw [HS8.out]; omega
        obtain ⟨b2, q2, w7, hrun, box7, i7, k7, hob⟩ := ups_add (Hn := fun k => Wb.heap.size ≤ k ∧ k < w6.heap.size) hi6 (by have := hb.size; omega) (by omega) (tellU f x) (upC (.slice none 0 0) (.slice (some g) 1 1) (atC pa9 pc9 ca9 cc9 ra9 rc9 (f x.C))) (fun W2 h2 => ⟨_, _, _, _, _, _, _, _, rfl, own_nil _ _ _ _, own_base (own_stands hr (fun k e => h2.block k (own_ge hr k e).2 (fun h => h (own_ge hr k e)))) (by omega), (ho.keeps (F := fun k => k < Wb.heap.size) (h2.mono (fun k hk hn => by
          rcases Nat.lt_or_ge k Wb.heap.size with h9 | h9
          · exact h9
          · exact absurd ⟨h9, hk⟩ hn)) (fun b h1 h2 => by omega)).base (by omega)⟩) (fun h => by omega) (fun k e h => by
          have := own_ge HI2.out.row k e
          omega) (fun k h => h.2)
        rw [hlen] at hrun i7 k7 hob
        have hn9 := hi6.row
        rw [hlen] at hn9
        generalize (hunds (goneL old fresh)).length + pre.length = n at *
        have HK9 : Hid (Keeps (fun k => Hc k ∨ X ≤ k) Wb (w7.setCell ⟨w.heap.size, 0, none⟩ (.slice b2 (n + 1) q2))) := (Keeps.of_below hb (fun _ => False)).mono (fun _ _ h => h.elim) |>.trans k7 (fun b hb9 h => .inl ((HH.out b).2 (.inr h)))
        have HI9 : Hid (UpsI w.heap.size w.heap.size ((hunds (goneL old fresh)).map goneU ++ (pre ++ [x]).map (tellU f)) (fun k => He k ∨ Wb.heap.size ≤ k ∧ k < w6.heap.size) (.slice b2 (n + 1) q2) (cs ++ [upC (.slice none 0 0) (.slice (some g) 1 1) (atC pa9 pc9 ca9 cc9 ra9 rc9 (f x.C))]) (w7.setCell ⟨w.heap.size, 0, none⟩ (.slice b2 (n + 1) q2))) := by
          have h9 := i7
          rw [List.append_assoc] at h9
          show UpsI _ _ _ _ _ _ _
          rw [List.map_append]
          exact h9
        have HOB := hide hob
        have hs6 := hb.size
        have hbS : Below Wb.heap.size Wb (w6.alloc (.cells (upC (.slice none 0 0) (.slice (some g) 1 1) (atC pa9 pc9 ca9 cc9 ra9 rc9 (f x.C))).toArray 57)) := hb.alloc hs6 _
        have hX7 : Bk 54 w7 X (tlC x) := by
          have h9 := (HX2.out.below hb HX2.out.lt).keeps k7 (fun h => by
            rcases h with h | h
            · omega
            · exact own_not_bk hn9 (HX2.out.below hb HX2.out.lt) (by decide) h)
          unfold Bk at h9 ⊢
          rw [heap_setCell w7 w.heap.size 0 _ X (by omega)] at h9
          exact h9
        have hX8 : Bk 50 w7 w.heap.size #[v] ∧ Bk 54 w7 X (tlC x) := ⟨box7, hX7⟩
        have hS6 := hS _ hbS
        refine anyD_q (i := 7) (by kernel_rfl) (by rfl) (by rfl) (fun w9 h9 => exec_build2 1 2 _ _ _ _ _ (by rfl) (by rfl) (run_buildT g pa9 pc9 ca9 cc9 ra9 rc9 (f x.C) w9)) (by rfl) (hS _ hb) ?_
        refine wpAnyD_one (i := 8) (by kernel_rfl) ?_
        refine op_plain (by rfl) rfl (wp_exec (exec_bs1 _ _ _ (by rfl) (run_bsU (.slice none 0 0) (.slice (some g) 1 1) pa9 pc9 ca9 cc9 ra9 rc9 (f x.C) w6)) ⟨fun _ => hS6, ?_⟩)
        refine wpAnyD_one (i := 9) (by kernel_rfl) ?_
        refine op_plain (by rfl) rfl (wp_exec (exec_append _ _ _ _ _ (by rfl) (by rfl) hrun) ⟨fun _ => hX8, ?_⟩)
        refine wpAnyD_one (i := 10) (by kernel_rfl) ?_
        refine op_plain (by rfl) rfl ?_
        have cL7 : w7.cell? ⟨w.heap.size, 0, none⟩ = some v := box7.cell 0 rfl
        have fL7 : w7.frozen? ⟨w.heap.size, 0, none⟩ = false := box7.frozen 0
        go_simp
        refine wpAnyD_done (by kernel_rfl) ⟨fun _ h => (by cases h), ?_⟩
        show goesOn _ _ _ _ _ _ Exit.normal _ _
        refine ⟨UpsH w.heap.size (fun k => He k ∨ Wb.heap.size ≤ k ∧ k < w6.heap.size) (.slice b2 (n + 1) q2), ⟨_, _, _, fun k => Iff.rfl, HI9.out⟩, ?_, ?_⟩
        · rw [HXE.out]
          exact HK9.out
        · rw [HXE.out]
          have h8 := HS8.out
          rintro k ((h | h) | h | h)
          · exact .inl ((HH.out k).2 (.inl h))
          · exact .inr (.inr (by omega))
          · exact .inl ((HH.out k).2 (.inr (.inl h)))
          · rcases HOB.out k h with h1 | h1
            · exact .inl ((HH.out k).2 (.inr (.inr h1)))
            · exact .inr (.inr (by omega))
    case done2 =>
      rintro D2 H2 W5 hD2 ⟨He, v, cs, hH, hi⟩ hk2 hs2' hnD2 hd2
      have HI5 := hide hi
      have HD5 : Hid (W5.heap[D]? = some (.deferred (some []))) := (hk2.block D (by omega) (fun h => HND.out h)).trans ((HK2.out.block D hDL (fun h => h)).trans HD.out)
      have hD2' : D2 < W5.heap.size := (Array.getElem?_eq_some_iff.1 hd2).1
      have HD6 := hide hd2
      have hne : D ≠ D2 := by omega
      have nD : ¬ UpsH w.heap.size He v D := fun h => by
        rcases hs2' D ((hH D).2 h) with h1 | h1
        · exact HND.out h1
        · omega
      have nD2 : ¬ UpsH w.heap.size He v D2 := fun h => hnD2 ((hH D2).2 h)
      have HBE : Hid (Below w.heap.size w W5) := HB2.out.trans (hk2.below _ HB2.out.size (fun b h => HSN.out b h))
      have hDN : w.heap.size ≤ D := by omega
      have hDN2 : w.heap.size ≤ D2 := by have := HB2.out.size; omega
      have EU : Hid (deltaU old fresh f = (hunds (goneL old fresh)).map goneU ++ (newL old fresh f).map (tellU f)) := rfl
      generalize (hunds (goneL old fresh)).map goneU ++ (newL old fresh f).map (tellU f) = us at hi HI5 EU
      obtain ⟨n, hn⟩ : ∃ n, n = us.length := ⟨_, rfl⟩
      have hrow := hi.row
      rw [← hn] at hrow
      obtain ⟨va, vc, rfl⟩ := own_shape hrow
      have cL : W5.cell? ⟨w.heap.size, 0, none⟩ = some (.slice va n vc) := hi.box.cell 0 rfl
      have NDH := hide nD
      have ND2H := hide nD2
      have HEND := hide (HI5.out.stays (((Keeps.refl _ W5).putObj D2 (.deferred none) (.inl ND2H.out)).putObj D (.deferred none) (.inl NDH.out)))
      have HBE2 : Hid (Below w.heap.size w ((W5.putObj D2 (.deferred none)).putObj D (.deferred none))) := HBE.out.trans ((((Keeps.refl (fun k => k = D ∨ k = D2) W5).putObj D2 (.deferred none) (.inl (.inr rfl))).putObj D (.deferred none) (.inl (.inl rfl))).below _ HBE.out.size (fun b h => by omega))
      have HDT : Hid ((W5.putObj D2 (.deferred none)).heap[D]? = some (.deferred (some []))) := (World.putObj_heap_other hne).trans HD5.out
      clear hi hk2 hs2' hnD2 hd2 hH nD nD2 hrow hn
      go_wp2_with fail
      refine ⟨by simp, .inl ⟨_, _, rfl, run_takeDeferred HD6.out, ?_⟩⟩
      refine ⟨by simp, .inl ⟨_, _, rfl, run_takeDeferred HDT.out, ?_⟩⟩
      refine ⟨_, results_tmp rfl _ _ _, .slice va n vc, rfl, by rw [EU.out]; exact HEND.out.delta, HBE2.out⟩
end
end Go.Proofs.YthigjonagbfbbaaDoor
/- The sample. -/
namespace Go.Proofs.YthigjonagbfbbaaDoor
open Go.RowKit
set_option maxRecDepth 100000

def sCfg : Cfg := ⟨1, 0, 167772169, 0, 0, 0, 0, 0⟩
def sPcf : Pcf := ⟨3, 2, [], []⟩
def sRt : Rt := ⟨0, 0, -1, ⟨0, [], 167772161, -1, -1, [], []⟩, 0⟩
def sAt : At := ⟨0, [(false, [1])], 167772169, -1, -1, [], []⟩
theorem sExp : exportR sCfg sPcf false sRt 1 = some sAt := by kernel_rfl
section
variable {P : Program} {a : Act} {w w' : World} {K : Act → World → Prop} {Q : Exit → Act → World → Prop} {dst : Option Tmp} {ty : TypeId} {pos : String} {after : Array Edge} {gd : Option (Nat × Bool)}
theorem keptT_build (xs : Array (Nat × Operand)) : Oper.wp P { dst := dst, op := .build 54 xs, type := ty, pos := pos, after := after, guard := gd } a w K Q = Kept P { dst := dst, op := .build 54 xs, type := ty, pos := pos, after := after, guard := gd } a w K Q := rfl
theorem keptT_bs (n : Nat) (xs : Array (Nat × Operand)) : Oper.wp P { dst := dst, op := .buildSlice 48 n xs, type := ty, pos := pos, after := after, guard := gd } a w K Q = Kept P { dst := dst, op := .buildSlice 48 n xs, type := ty, pos := pos, after := after, guard := gd } a w K Q := rfl
end
theorem run_buildTd (pa : Option Addr) (pc : Nat) (ca : Option Addr) (cc : Nat) (ra : Option Addr) (rc : Nat) (a : At) (w : World) : (Instr.build 54 #[(1, .agg (atC pa pc ca cc ra rc a))]).run Tryd.prog w = .ok (.agg (tlC ⟨0, 0, atC pa pc ca cc ra rc a⟩)) w := by kernel_rfl
theorem run_bsT (pa : Option Addr) (pc : Nat) (ca : Option Addr) (cc : Nat) (ra : Option Addr) (rc : Nat) (a : At) (w : World) : (Instr.buildSlice 48 1 #[(0, .agg (tlC ⟨0, 0, atC pa pc ca cc ra rc a⟩))]).run Tryd.prog w = .ok (.slice (some ⟨w.heap.size, 0, none⟩) 1 1) (w.alloc (.cells (tlC ⟨0, 0, atC pa pc ca cc ra rc a⟩) 54)) := by kernel_rfl
theorem pth_nil (w : World) : PthRd w none [] := ⟨fun h => absurd h (Nat.lt_irrefl 0), Nat.zero_le _, fun s hs => absurd hs (List.not_mem_nil (a := s))⟩
theorem atrd_nil (w : World) (o : Int) (n : Nat) (m p : Int) (hn : n < 4294967296) : AtRd w none none none ⟨o, [], n, m, p, [], []⟩ := ⟨pth_nil w, fun h => absurd h (Nat.lt_irrefl 0), fun h => absurd h (Nat.lt_irrefl 0), hn⟩
theorem flat9 : ∀ (cs : List (List Value)) (i j : Nat) (c : List Value), (∀ x ∈ cs, x.length = 9) → cs[i]? = some c → j < 9 → cs.flatten[i * 9 + j]? = c[j]?
  | [], i, j, c, _, h, _ => by simp at h
  | x :: cs, 0, j, c, h9, h, hj => by
    simp at h
    subst h
    rw [Nat.zero_mul, Nat.zero_add, List.flatten_cons, List.getElem?_append_left (by rw [h9 x (by simp)]; exact hj)]
  | x :: cs, i + 1, j, c, h9, h, hj => by
    have hx := h9 x (by simp)
    rw [List.flatten_cons, List.getElem?_append_right (by omega), hx, show (i + 1) * 9 + j - 9 = i * 9 + j by omega]
    exact flat9 cs i j c (fun y hy => h9 y (List.mem_cons_of_mem _ hy)) (by simpa using h) hj
/-- The Updates of an answer, cell by cell. -/
theorem DeltaIs.cells {N : Nat} {w' : World} {v : Value} {us : List Up} (h : DeltaIs N w' v us) (hp : 0 < us.length) : ∃ g cap, v = .slice (some ⟨g, 0, none⟩) us.length cap ∧ ∀ (i : Nat) (u : Up), us[i]? = some u → ∃ c, UpAt N u c w' ∧ ∀ (j : Nat) (x : Value), c[j]? = some x → w'.cell? ⟨g, i * 9 + j, none⟩ = some x := by
  obtain ⟨cs, hl, hrow, he⟩ := h
  obtain ⟨g, cap, rfl, _, _⟩ := hrow.form hp
  have h9 : ∀ x ∈ cs, x.length = 9 := fun x hx => by
    obtain ⟨i, hi⟩ := List.getElem?_of_mem hx
    have hil := (List.getElem?_eq_some_iff.1 hi).1
    exact (he i us[i] x (List.getElem?_eq_getElem (by omega)) hi).length
  refine ⟨g, cap, rfl, fun i u hu => ?_⟩
  have hil := (List.getElem?_eq_some_iff.1 hu).1
  have hci : cs[i]? = some cs[i] := List.getElem?_eq_getElem (by omega)
  have hup := he i u cs[i] hu hci
  refine ⟨cs[i], hup, fun j x hx => ?_⟩
  have hj : j < 9 := by have := (List.getElem?_eq_some_iff.1 hx).1; have := hup.length; omega
  rw [hrow.cellAt (i * 9 + j) (by omega), flat9 cs i j _ h9 hci hj]
  exact hx
theorem DeltaIs.slice {N : Nat} {w' : World} {v : Value} {us : List Up} (h : DeltaIs N w' v us) : ∃ a c, v = .slice a us.length c := by
  obtain ⟨cs, hl, hrow, he⟩ := h
  exact own_shape hrow
/-- One that is told. -/
theorem tls_one (w : World) (t : Tl) (h : AC t.C) : TlsRd (w.alloc (.cells (tlC t) 54)) (some ⟨w.heap.size, 0, none⟩) [t] := ⟨fun _ => ⟨w.heap.size, 0, rfl, fun i x hi j v hv => by
  have h0 : i = 0 := by
    rcases Nat.eq_zero_or_pos i with h0 | h0
    · exact h0
    · rw [List.getElem?_eq_none (by simp; omega)] at hi; cases hi
  subst h0
  simp at hi
  subst hi
  rw [Nat.zero_mul, Nat.add_zero, Nat.zero_add]
  exact (Bk.new 54 w (tlC t)).cell j hv⟩, fun x hx => by
  rw [List.mem_singleton] at hx
  subst hx
  exact h⟩
theorem rules_nil (w : World) : RulesIn w none [] := .inl rfl
theorem sExport_any (w : World) (hS : Said w) : Calls Tryd.prog 10 #[.agg #[.int .i64 1, .int .u32 0, .int .u32 167772169, .int .i64 0, .int .i64 0, .int .i64 0, .int .i64 0, .int .i64 0], .agg #[.int .i64 3, .int .i64 2, .slice none 0 0, .slice none 0 0], .bool false,
      .agg #[.int .u32 0, .int .i64 0, .int .i64 (-1), .int .i64 0, .slice none 0 0, .int .u32 167772161, .int .i64 (-1), .int .i64 (-1), .slice none 0 0, .slice none 0 0, .int .i64 0], .int .i64 1] w fun e w' =>
    ∃ pa pc ca cc ra rc, e = .returned (.tuple #[.agg (atC pa pc ca cc ra rc sAt), .bool true]) ∧ OwnAt w' w.heap.size pa pc ca cc ra rc sAt ∧ Below w.heap.size w w' := by
  have h := pexport_any sCfg sPcf none 0 none 0 false none 0 none 0 none 0 sRt 1 w hS (by decide) (atrd_nil w 0 167772161 (-1) (-1) (by decide)) (by decide) (rules_nil w) (by decide) (by decide)
  rw [sExp] at h
  refine Calls.mono (R := fun e w' => ExpP w.heap.size w' e (some sAt) ∧ Below w.heap.size w w') h ?_
  rintro e w' ⟨⟨pa, pc, ca, cc, ra, rc, h1, h2⟩, h3⟩
  exact ⟨pa, pc, ca, cc, ra, rc, h1, h2, h3⟩
section
attribute [local go_sem ↓] keptT_build keptT_bs keptA_load keptA_store keptA_alloc
set_option maxHeartbeats 3200000 in
theorem answers_any (w : World) (hS : Said w) : Calls Tryd.prog 9 #[] w fun e w' => e = .returned (.bool true) ∧ Below w.heap.size w w' := by
  have HSD := hide hS
  clear hS
  go_enter Tryd.func9, Tryd.ntmps9
  go_wp2_with fail
  have hb1 : Below w.heap.size w (w.alloc (.cells #[.int .i64 1, .int .u32 0, .int .u32 167772169, .int .i64 0, .int .i64 0, .int .i64 0, .int .i64 0, .int .i64 0] 24)) := (Below.refl _ _).alloc (Nat.le_refl _) _
  refine (sExport_any _ (HSD.out.below hb1)).mono ?_
  rintro e w2 ⟨pa, pc, ca, cc, ra, rc, rfl, ho2, hb2⟩
  have HB2 : Hid (Below w.heap.size w w2) := hb1.trans (hb2.mono hb1.size)
  have HC2 : Hid (Bk 24 w2 w.heap.size #[.int .i64 1, .int .u32 0, .int .u32 167772169, .int .i64 0, .int .i64 0, .int .i64 0, .int .i64 0, .int .i64 0]) := (Bk.new 24 w _).below hb2 (by simp)
  have HO2 := hide ho2
  clear hb1 hb2 ho2
  go_wp2_with fail
  refine kept_alloc_intro _ (run_allocA _) ?_
  go_wp2_with fail
  refine kept_store_intro _ _ _ (.agg (atC pa pc ca cc ra rc sAt)) (by rfl) (by rfl) (run_storeAb (Ab.new w2 zA) rfl (AC.of _ _ _ _ _ _ _)) ?_
  have hb3 : Below w2.heap.size w2 ((w2.alloc (.cells zA 34)).setCells w2.heap.size 0 (atC pa pc ca cc ra rc sAt).toList) := below_puts ((Below.refl _ _).alloc (Nat.le_refl _) _) (Nat.le_refl _) _
  have HX3 : Hid (Ab ((w2.alloc (.cells zA 34)).setCells w2.heap.size 0 (atC pa pc ca cc ra rc sAt).toList) w2.heap.size (atC pa pc ca cc ra rc sAt)) := (Ab.new w2 zA).put rfl
  have HO3 := hide (HO2.out.later hb3)
  have HC3 := hide (HC2.out.below hb3 HC2.out.lt)
  have HB3 : Hid (Below w.heap.size w ((w2.alloc (.cells zA 34)).setCells w2.heap.size 0 (atC pa pc ca cc ra rc sAt).toList)) := HB2.out.trans (hb3.mono HB2.out.size)
  have hz2 : w.heap.size < w2.heap.size := HC2.out.lt
  clear hb3 HO2 HC2 HB2
  generalize (w2.alloc (.cells zA 34)).setCells w2.heap.size 0 (atC pa pc ca cc ra rc sAt).toList = w3 at *
  generalize w2.heap.size = X at *
  go_wp2_with fail
  refine kept_load_intro _ _ _ (by rfl) (run_loadAb HX3.out (AC.of _ _ _ _ _ _ _)) ?_
  go_wp2_with fail
  refine kept_build1_intro _ _ _ _ (by rfl) (run_buildTd pa pc ca cc ra rc sAt w3) ?_
  go_wp2_with fail
  refine kept_exec (exec_bs1 _ _ _ (by rfl) (run_bsT pa pc ca cc ra rc sAt w3)) ?_
  have hb4 : Below w3.heap.size w3 (w3.alloc (.cells (tlC ⟨0, 0, atC pa pc ca cc ra rc sAt⟩) 54)) := (Below.refl _ _).alloc (Nat.le_refl _) _
  have hrd := (HO3.out.rd (by decide) (by decide) (fun r hr => by cases hr)).below hb4
  have HD := hide (delta_any none (some ⟨w3.heap.size, 0, none⟩) 0 1 [] [⟨0, 0, atC pa pc ca cc ra rc sAt⟩] (fun _ => sAt) (w3.alloc (.cells (tlC ⟨0, 0, atC pa pc ca cc ra rc sAt⟩) 54)) (by decide) (by show 1 ≤ 10000; omega) ⟨fun h => absurd h (Nat.lt_irrefl 0), fun t ht => by cases ht⟩ (tls_one w3 _ (AC.of _ _ _ _ _ _ _)) (fun t ht => by cases ht) (fun t ht => by
    rw [List.mem_singleton] at ht
    subst ht
    exact ⟨pa, pc, ca, cc, ra, rc, rfl, hrd, by show sizeA sAt ≤ 100000; decide⟩))
  have HX4 := hide (HX3.out.below hb4)
  have HC4 := hide (HC3.out.below hb4 HC3.out.lt)
  have HB4 : Hid (Below w.heap.size w (w3.alloc (.cells (tlC ⟨0, 0, atC pa pc ca cc ra rc sAt⟩) 54))) := HB3.out.trans (hb4.mono HB3.out.size)
  clear hb4 hrd HX3 HO3 HC3 HB3
  generalize w3.alloc (.cells (tlC ⟨0, 0, atC pa pc ca cc ra rc sAt⟩) 54) = w4 at *
  go_wp2_with fail
  refine HD.out.mono ?_
  rintro e w5 ⟨v, rfl, hd5, hb5⟩
  have hd6 : DeltaIs w4.heap.size w5 v [⟨[], sAt, [(0, 0)]⟩] := hd5
  obtain ⟨g, cap, rfl, hcell⟩ := hd6.cells (by decide)
  obtain ⟨cc5, ⟨gv, nv, pb, pd, cb, cd, rb, rd, rfl, _, hnv, _⟩, hx⟩ := hcell 0 ⟨[], sAt, [(0, 0)]⟩ rfl
  obtain ⟨na, nc, rfl⟩ := own_shape hnv
  have c8 : w5.cell? ⟨g, 8, none⟩ = some (.slice na 1 nc) := by simpa using hx 8 (.slice na 1 nc) rfl
  have HX5 := hide (HX4.out.below hb5)
  have HC5 := hide (HC4.out.below hb5 HC4.out.lt)
  have HB5 : Hid (Below w.heap.size w w5) := HB4.out.trans (hb5.mono HB4.out.size)
  have k1 : w5.cell? ⟨X, 1, none⟩ = some (.slice pa 1 pc) := HX5.out.cell 1 rfl
  have k2 : w5.cell? ⟨X, 2, none⟩ = some (.int .u32 167772169) := HX5.out.cell 2 rfl
  have k3 : w5.cell? ⟨w.heap.size, 2, none⟩ = some (.int .u32 167772169) := HC5.out.cell 2 rfl
  clear hd5 hd6 hcell hx hnv hb5 HD HX4 HC4 HB4
  go_wp2_with fail
  go_ret
  exact ⟨rfl, HB5.out⟩
end
end Go.Proofs.YthigjonagbfbbaaDoor
