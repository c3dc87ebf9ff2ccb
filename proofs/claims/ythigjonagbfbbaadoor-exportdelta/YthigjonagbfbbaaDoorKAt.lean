/- own: attributes of their own memory. -/
import Derived.Test.YthigjonagbfbbaaDoorKAr
import Derived.Test.YthigjonagbfbbaaDoorKAk
import Derived.Test.YthigjonagbfbbaaDoorKAs
import Derived.Test.YthigjonagbfbbaaDoorKAq
namespace Go.Proofs.YthigjonagbfbbaaDoor
open Go.RowKit
set_option maxRecDepth 100000

/-- A route of these attributes. -/
def rtOf (a : At) : Rt := ⟨0, 0, 0, a, 0⟩
section
variable {P : Program} {a : Act} {w w' : World} {K : Act → World → Prop} {Q : Exit → Act → World → Prop} {dst : Option Tmp} {ty : TypeId} {pos : String} {after : Array Edge} {gd : Option (Nat × Bool)}
theorem keptA_box (x : Operand) : Oper.wp P { dst := dst, op := .box 34 x, type := ty, pos := pos, after := after, guard := gd } a w K Q = Kept P { dst := dst, op := .box 34 x, type := ty, pos := pos, after := after, guard := gd } a w K Q := rfl
theorem keptR_field (x : Operand) (i : Nat) : Oper.wp P { dst := dst, op := .field 36 x i, type := ty, pos := pos, after := after, guard := gd } a w K Q = Kept P { dst := dst, op := .field 36 x i, type := ty, pos := pos, after := after, guard := gd } a w K Q := rfl
theorem kept_build1_intro {t : TypeId} (i : Nat) (x : Operand) (p v : Value) (hx : a.eval x = p) (hr : (Instr.build t #[(i, p)]).run P w = .ok v w) (h : K (a.put dst v) w) : Kept P { dst := dst, op := .build t #[(i, x)], type := ty, pos := pos, after := after, guard := gd } a w K Q := by
  unfold Kept Oper.wp execOp
  have e : (#[(i, x)].map fun (i, x) => (i, a.eval x)) = #[(i, p)] := by simp [hx]
  simp only [e, Sem.run_bind, hr, Result.andThen_ok, Sem.run_pure]
  exact h
theorem kept_exec {o : Oper} {v : Value} (hr : (execOp a.eval o).run P w = .ok (.value v) w') (h : K (a.put o.dst v) w') : Kept P o a w K Q := by
  unfold Kept Oper.wp
  rw [hr]
  exact h
end
theorem run_boxA (C : Array Value) (w : World) : (Instr.box 34 (.agg C)).run Tryd.prog w = .ok (.pointer (some ⟨w.heap.size, 0, none⟩)) (w.alloc (.cells C 34)) := by
  simp [Instr.box, newVar, go_sem, Value.cells]
theorem run_buildR (pa : Option Addr) (pc : Nat) (ca : Option Addr) (cc : Nat) (ra : Option Addr) (rc : Nat) (a : At) (w : World) : (Instr.build 36 #[(2, .agg (atC pa pc ca cc ra rc a))]).run Tryd.prog w = .ok (rtV pa pc ca cc ra rc (rtOf a)) w := by kernel_rfl
section
attribute [local go_sem ↓] keptA_box keptA_load keptA_store keptA_alloc keptR_build keptR_field
set_option maxHeartbeats 1600000 in
theorem ownA_any (pa : Option Addr) (pc : Nat) (ca : Option Addr) (cc : Nat) (ra : Option Addr) (rc : Nat) (a : At) (w : World) (hl : sizeA a ≤ 100000) (h : AtRd w pa ca ra a) :
    Calls Tryd.prog 38 #[.agg (atC pa pc ca cc ra rc a)] w fun e w' => ∃ pa' pc' ca' cc' ra' rc', e = .returned (.agg (atC pa' pc' ca' cc' ra' rc' a)) ∧ OwnAt w' w.heap.size pa' pc' ca' cc' ra' rc' a ∧ Below w.heap.size w w' := by
  have HR := hide h
  have HL := hide hl
  clear h hl
  obtain ⟨C, hC⟩ : ∃ C, C = atC pa pc ca cc ra rc a := ⟨_, rfl⟩
  rw [← hC]
  have HC := hide hC
  have HAC : Hid (AC C) := by show AC C; rw [hC]; exact AC.of _ _ _ _ _ _ _
  clear hC
  go_enter Tryd.func38, Tryd.ntmps38
  go_wp2_with fail
  refine kept_box_intro _ _ _ (by rfl) (run_boxA C w) ?_
  go_wp2_with fail
  refine kept_alloc_intro _ (run_allocA _) ?_
  obtain ⟨W0, hW0⟩ : ∃ W0, W0 = (w.alloc (.cells C 34)).alloc (.cells zA 34) := ⟨_, rfl⟩
  have HB0 : Hid (Below w.heap.size w W0) := by show Below _ _ _; rw [hW0]; exact ((Below.refl _ _).alloc (Nat.le_refl _) _).alloc (by simp) _
  have HX0 : Hid (Ab W0 w.heap.size C) := by show Ab _ _ _; rw [hW0]; exact (Ab.new w C).below ((Below.refl _ _).alloc (Nat.le_refl _) _)
  have HY0 : Hid (Ab W0 (w.heap.size + 1) zA) := by show Ab _ _ _; rw [hW0]; have := Ab.new (w.alloc (.cells C 34)) zA; simpa using this
  have hs0 : W0.heap.size = w.heap.size + 2 := by rw [hW0]; simp
  rw [← hW0]
  simp only [World.size_alloc]
  clear hW0
  go_wp2_with fail
  refine kept_load_intro _ _ (.agg C) (by rfl) (run_loadAb HX0.out HAC.out) ?_
  go_wp2_with fail
  refine kept_build1_intro _ _ (.agg C) (rtV pa pc ca cc ra rc (rtOf a)) (by rfl) (by rw [HC.out]; exact run_buildR _ _ _ _ _ _ _ _) ?_
  go_wp2_with fail
  refine (own_any pa pc ca cc ra rc (rtOf a) W0 HL.out (HR.out.below HB0.out)).mono ?_
  rintro e w5 ⟨⟨pa9, pc9, ca9, cc9, ra9, rc9, rfl, ho5⟩, hb5⟩
  have HO5 : Hid (OwnAt w5 W0.heap.size pa9 pc9 ca9 cc9 ra9 rc9 a) := ho5
  have HY5 := hide (HY0.out.below hb5)
  have HB5 : Hid (Below w.heap.size w w5) := HB0.out.trans (hb5.mono (by omega))
  clear ho5 hb5 HB0 HX0 HY0
  go_wp2_with fail
  refine kept_exec (v := .agg (atC pa9 pc9 ca9 cc9 ra9 rc9 a)) (w' := w5) (by kernel_rfl) ?_
  go_wp2_with fail
  refine kept_store_intro _ _ _ (.agg (atC pa9 pc9 ca9 cc9 ra9 rc9 a)) (by rfl) (by rfl) (run_storeAb HY5.out rfl (AC.of _ _ _ _ _ _ _)) ?_
  have HY6 : Hid (Ab (w5.setCells (w.heap.size + 1) 0 (atC pa9 pc9 ca9 cc9 ra9 rc9 a).toList) (w.heap.size + 1) (atC pa9 pc9 ca9 cc9 ra9 rc9 a)) := HY5.out.put rfl
  have HO6 : Hid (OwnAt (w5.setCells (w.heap.size + 1) 0 (atC pa9 pc9 ca9 cc9 ra9 rc9 a).toList) w.heap.size pa9 pc9 ca9 cc9 ra9 rc9 a) := (HO5.out.keeps ((Keeps.refl (fun k => k = w.heap.size + 1) w5).setCells (w.heap.size + 1) 0 _ (.inl rfl)) (fun b h1 h2 => by omega)).base (by omega)
  have HB6 := hide (below_puts HB5.out (X := w.heap.size + 1) (by omega) (atC pa9 pc9 ca9 cc9 ra9 rc9 a).toList)
  generalize w5.setCells (w.heap.size + 1) 0 (atC pa9 pc9 ca9 cc9 ra9 rc9 a).toList = w6 at *
  go_wp2_with fail
  refine bodyPost_ret (v := .agg (atC pa9 pc9 ca9 cc9 ra9 rc9 a)) (resA_one Tryd.results38 _ w6 (w.heap.size + 1) _ rfl HY6.out (AC.of _ _ _ _ _ _ _)) rfl ⟨pa9, pc9, ca9, cc9, ra9, rc9, rfl, HO6.out, HB6.out⟩
end
end Go.Proofs.YthigjonagbfbbaaDoor
/- Whom a route does not go out for: goesBack, isAllowed, isTooStale, isOurs. -/
namespace Go.Proofs.YthigjonagbfbbaaDoor
open Go.RowKit
set_option maxRecDepth 100000

section
variable {P : Program} {a : Act} {w w' : World} {K : Act → World → Prop} {Q : Exit → Act → World → Prop} {dst : Option Tmp} {ty : TypeId} {pos : String} {after : Array Edge} {gd : Option (Nat × Bool)}
theorem keptC_load (x : Operand) : Oper.wp P { dst := dst, op := .load 24 x, type := ty, pos := pos, after := after, guard := gd } a w K Q = Kept P { dst := dst, op := .load 24 x, type := ty, pos := pos, after := after, guard := gd } a w K Q := rfl
theorem keptC_box (x : Operand) : Oper.wp P { dst := dst, op := .box 24 x, type := ty, pos := pos, after := after, guard := gd } a w K Q = Kept P { dst := dst, op := .box 24 x, type := ty, pos := pos, after := after, guard := gd } a w K Q := rfl
theorem keptP_load (x : Operand) : Oper.wp P { dst := dst, op := .load 27 x, type := ty, pos := pos, after := after, guard := gd } a w K Q = Kept P { dst := dst, op := .load 27 x, type := ty, pos := pos, after := after, guard := gd } a w K Q := rfl
theorem keptP_box (x : Operand) : Oper.wp P { dst := dst, op := .box 27 x, type := ty, pos := pos, after := after, guard := gd } a w K Q = Kept P { dst := dst, op := .box 27 x, type := ty, pos := pos, after := after, guard := gd } a w K Q := rfl
end
theorem run_boxS {P : Program} (t : TypeId) (C : Array Value) (w : World) : (Instr.box t (.agg C)).run P w = .ok (.pointer (some ⟨w.heap.size, 0, none⟩)) (w.alloc (.cells C t)) := by
  simp [Instr.box, newVar, go_sem, Value.cells]
theorem infoC : (Tryd.prog.info? 24).map (·.size) = some 8 := by kernel_rfl
theorem infoPc : (Tryd.prog.info? 27).map (·.size) = some 4 := by kernel_rfl
/-- A struct out of its box, whole. -/
theorem Bk.whole {P : Program} {t : TypeId} {w : World} {X : Nat} {C : Array Value} (h : Bk t w X C) (d : TypeDesc) (hu : P.underlying t = some d) (hd : d.isRow = true) (hi : (P.info? t).map (·.size) = some C.size) : (Instr.loadAt t (.pointer (some ⟨X, 0, none⟩))).run P w = .ok (.agg C) w :=
  h.load 0 t d C.toList (fun j v hv => by rw [Nat.zero_add, ← Array.getElem?_toList]; exact hv) hu hd (by rw [hi]; simp) _ (by simp)
/-- Does it go back? -/
def goesB (c : Cfg) (pe : Pcf) (r : Rt) (src : Int) : Bool := (r.peer == pe.num) || (decide (0 ≤ r.peer) && (src == c.asn) && (pe.asn == c.asn))
section
attribute [local go_sem ↓] keptC_load keptC_box keptP_load keptP_box keptR_box keptR_load
set_option maxHeartbeats 800000 in
theorem isOurs_any (c : Cfg) (z : Int) (w : World) : Calls Tryd.prog 27 #[.agg (cfgC c), .int .i64 z] w fun e w' => e = .returned (.bool (z == c.asn)) ∧ Below w.heap.size w w' := by
  obtain ⟨C, hC⟩ : ∃ C, C = cfgC c := ⟨_, rfl⟩
  rw [← hC]
  have hg : C[0]? = some (.int .i64 c.asn) := by rw [hC]; rfl
  clear hC
  go_enter Tryd.func27, Tryd.ntmps27
  go_wp2_with fail
  refine kept_box_intro _ _ _ (by rfl) (run_boxS _ C w) ?_
  have HB := hide (Bk.new 24 w C)
  have HW : Hid (Below w.heap.size w (w.alloc (.cells C 24))) := (Below.refl _ _).alloc (Nat.le_refl _) _
  generalize w.alloc (.cells C 24) = w1 at *
  have c0 := HB.out.cell 0 hg
  go_wp2_with fail
  go_ret
  exact ⟨rfl, HW.out⟩
set_option maxHeartbeats 1600000 in
theorem goesBack_any (c : Cfg) (pe : Pcf) (ia : Option Addr) (ic : Nat) (oa : Option Addr) (oc : Nat) (pa : Option Addr) (pc : Nat) (ca : Option Addr) (cc : Nat) (ra : Option Addr) (rc : Nat) (r : Rt) (src : Int) (w : World) :
    Calls Tryd.prog 23 #[.agg (cfgC c), .agg (pcfC ia ic oa oc pe), .agg (rtC pa pc ca cc ra rc r), .int .i64 src] w fun e w' => e = .returned (.bool (goesB c pe r src)) ∧ Below w.heap.size w w' := by
  obtain ⟨b0, b1, b2, hs3, hbb⟩ : Bk 24 (((w.alloc (.cells (cfgC c) 24)).alloc (.cells (pcfC ia ic oa oc pe) 27)).alloc (.cells (rtC pa pc ca cc ra rc r) 36)) w.heap.size (cfgC c) ∧ Bk 27 (((w.alloc (.cells (cfgC c) 24)).alloc (.cells (pcfC ia ic oa oc pe) 27)).alloc (.cells (rtC pa pc ca cc ra rc r) 36)) (w.heap.size + 1) (pcfC ia ic oa oc pe) ∧ Bk 36 (((w.alloc (.cells (cfgC c) 24)).alloc (.cells (pcfC ia ic oa oc pe) 27)).alloc (.cells (rtC pa pc ca cc ra rc r) 36)) (w.heap.size + 2) (rtC pa pc ca cc ra rc r) ∧ (((w.alloc (.cells (cfgC c) 24)).alloc (.cells (pcfC ia ic oa oc pe) 27)).alloc (.cells (rtC pa pc ca cc ra rc r) 36)).heap.size = w.heap.size + 3 ∧ Below w.heap.size w (((w.alloc (.cells (cfgC c) 24)).alloc (.cells (pcfC ia ic oa oc pe) 27)).alloc (.cells (rtC pa pc ca cc ra rc r) 36)) := by
    have s1 : (w.alloc (.cells (cfgC c) 24)).heap.size = w.heap.size + 1 := by simp
    have s2 : ((w.alloc (.cells (cfgC c) 24)).alloc (.cells (pcfC ia ic oa oc pe) 27)).heap.size = w.heap.size + 2 := by simp
    refine ⟨((Bk.new _ w _).alloc _).alloc _, ?_, ?_, by simp, (((Below.refl _ _).alloc (Nat.le_refl _) _).alloc (by omega) _).alloc (by omega) _⟩
    · have := (Bk.new 27 (w.alloc (.cells (cfgC c) 24)) (pcfC ia ic oa oc pe)).alloc (.cells (rtC pa pc ca cc ra rc r) 36)
      rwa [s1] at this
    · have := Bk.new 36 ((w.alloc (.cells (cfgC c) 24)).alloc (.cells (pcfC ia ic oa oc pe) 27)) (rtC pa pc ca cc ra rc r)
      rwa [s2] at this
  have HB0 := hide b0
  have HB1 := hide b1
  have HB2 := hide b2
  have HBB := hide hbb
  have g0 : (cfgC c)[0]? = some (.int .i64 c.asn) := rfl
  have g1 : (pcfC ia ic oa oc pe)[0]? = some (.int .i64 pe.num) := rfl
  have g2 : (pcfC ia ic oa oc pe)[1]? = some (.int .i64 pe.asn) := rfl
  have g3 : (rtC pa pc ca cc ra rc r)[2]? = some (.int .i64 r.peer) := rfl
  have n0 : (cfgC c).size = 8 := rfl
  clear b0 b1 b2 hbb
  have HCF := hide (fun (z : Int) (w : World) => isOurs_any c z w)
  have HV : Hid (goesB c pe r src = ((r.peer == pe.num) || (decide (0 ≤ r.peer) && (src == c.asn) && (pe.asn == c.asn)))) := rfl
  generalize cfgC c = C0 at *
  generalize pcfC ia ic oa oc pe = C1 at *
  generalize rtC pa pc ca cc ra rc r = C2 at *
  generalize hgb : goesB c pe r src = gb at HV ⊢
  clear hgb
  go_enter Tryd.func23, Tryd.ntmps23
  go_wp2_with fail
  refine kept_box_intro _ _ _ (by rfl) (run_boxS _ C0 w) ?_
  go_wp2_with fail
  refine kept_box_intro _ _ _ (by rfl) (run_boxS _ C1 _) ?_
  go_wp2_with fail
  refine kept_box_intro _ _ _ (by rfl) (run_boxS _ C2 _) ?_
  simp only [World.size_alloc]
  generalize World.alloc (World.alloc (World.alloc w _) _) _ = w1 at *
  have p0 := HB1.out.cell 0 g1
  have p1 := HB1.out.cell 1 g2
  have r2 := HB2.out.cell 2 g3
  cases hq : (r.peer == pe.num) with
  | true =>
    have HE : Hid (gb = true) := by show _ = _; rw [HV.out, hq]; rfl
    clear HV
    go_wp2_with fail
    go_ret
    exact ⟨by rw [HE.out]; rfl, HBB.out⟩
  | false =>
    cases hn : decide (0 ≤ r.peer) with
    | false =>
      have HE : Hid (gb = false) := by show _ = _; rw [HV.out, hq, hn]; rfl
      clear HV
      go_wp2_with fail
      go_ret
      exact ⟨by rw [HE.out]; rfl, HBB.out⟩
    | true =>
      go_wp2_with fail
      refine kept_load_intro _ _ (.agg C0) (by rfl) (HB0.out.whole _ Tryd.underlying24 rfl (by rw [infoC, n0])) ?_
      go_wp2_with fail
      refine (HCF.out src w1).mono ?_
      rintro e w2 ⟨rfl, b2⟩
      have HB0' := hide (HB0.out.below b2 HB0.out.lt)
      have HB1' := hide (HB1.out.below b2 HB1.out.lt)
      have HBB' : Hid (Below w.heap.size w w2) := HBB.out.trans (b2.mono HBB.out.size)
      have p1' := HB1'.out.cell 1 g2
      clear HB0 HB1 HB2 HBB p0 p1 r2 b2 hs3
      cases hs : (src == c.asn) with
      | false =>
        have HE : Hid (gb = false) := by show _ = _; rw [HV.out, hq, hn, hs]; rfl
        clear HV
        go_wp2_with fail
        go_ret
        exact ⟨by rw [HE.out]; rfl, HBB'.out⟩
      | true =>
        go_wp2_with fail
        refine kept_load_intro _ _ (.agg C0) (by rfl) (HB0'.out.whole _ Tryd.underlying24 rfl (by rw [infoC, n0])) ?_
        go_wp2_with fail
        refine (HCF.out pe.asn w2).mono ?_
        rintro e w3 ⟨rfl, b3⟩
        have HBB3 : Hid (Below w.heap.size w w3) := HBB'.out.trans (b3.mono HBB'.out.size)
        have HE : Hid (gb = (pe.asn == c.asn)) := by show _ = _; rw [HV.out, hq, hn, hs]; simp
        clear HV b3
        go_wp2_with fail
        go_ret
        exact ⟨by rw [HE.out]; rfl, HBB3.out⟩
set_option maxHeartbeats 1600000 in
theorem isAllowed_any (pe : Pcf) (ia : Option Addr) (ic : Nat) (oa : Option Addr) (oc : Nat) (pa : Option Addr) (pc : Nat) (ca : Option Addr) (cc : Nat) (ra : Option Addr) (rc : Nat) (r : Rt) (w : World) (ho : pe.out.length ≤ 1000) (hr : RulesIn w oa pe.out) (hA : r.A < 4294967296) :
    Calls Tryd.prog 24 #[.agg (pcfC ia ic oa oc pe), .agg (rtC pa pc ca cc ra rc r)] w fun e w' => e = .returned (.bool (applyR pe.out r.A r.L).2) ∧ Below w.heap.size w w' := by
  have hb2 : Below w.heap.size w ((w.alloc (.cells (pcfC ia ic oa oc pe) 27)).alloc (.cells (rtC pa pc ca cc ra rc r) 36)) := ((Below.refl _ _).alloc (Nat.le_refl _) _).alloc (by simp) _
  have HC := hide (apply_any oa pe.out.length oc r.A r.L pe.out ((w.alloc (.cells (pcfC ia ic oa oc pe) 27)).alloc (.cells (rtC pa pc ca cc ra rc r) 36)) ho rfl (hr.below hb2 (Nat.le_refl _)) hA)
  have HB1 : Hid (Bk 27 ((w.alloc (.cells (pcfC ia ic oa oc pe) 27)).alloc (.cells (rtC pa pc ca cc ra rc r) 36)) w.heap.size (pcfC ia ic oa oc pe)) := (Bk.new _ _ _).alloc _
  have HB2 : Hid (Bk 36 ((w.alloc (.cells (pcfC ia ic oa oc pe) 27)).alloc (.cells (rtC pa pc ca cc ra rc r) 36)) (w.heap.size + 1) (rtC pa pc ca cc ra rc r)) := by show Bk _ _ _ _; have := Bk.new 36 (w.alloc (.cells (pcfC ia ic oa oc pe) 27)) (rtC pa pc ca cc ra rc r); rwa [World.size_alloc] at this
  have HBB := hide hb2
  clear hr hA hb2 ho
  have g1 : (pcfC ia ic oa oc pe)[3]? = some (.slice oa pe.out.length oc) := rfl
  have g2 : (rtC pa pc ca cc ra rc r)[0]? = some (.int .u32 (r.A : Int)) := rfl
  have g3 : (rtC pa pc ca cc ra rc r)[1]? = some (.int .i64 r.L) := rfl
  generalize pcfC ia ic oa oc pe = C1 at *
  generalize rtC pa pc ca cc ra rc r = C2 at *
  go_enter Tryd.func24, Tryd.ntmps24
  go_wp2_with fail
  refine kept_box_intro _ _ _ (by rfl) (run_boxS _ C1 w) ?_
  go_wp2_with fail
  refine kept_box_intro _ _ _ (by rfl) (run_boxS _ C2 _) ?_
  simp only [World.size_alloc]
  generalize World.alloc (World.alloc w _) _ = w1 at *
  have p3 := HB1.out.cell 3 g1
  have r0 := HB2.out.cell 0 g2
  have r1 := HB2.out.cell 1 g3
  go_wp2_with fail
  refine HC.out.mono ?_
  rintro e w2 ⟨rfl, b2⟩
  have HB2' : Hid (Below w.heap.size w w2) := HBB.out.trans (b2.mono HBB.out.size)
  clear b2 HC HB1 HB2 HBB p3 r0 r1
  generalize (applyR pe.out r.A r.L).1 = k1
  generalize hk2 : (applyR pe.out r.A r.L).2 = k2
  have HE := hide hk2
  clear hk2
  go_wp2_with fail
  go_ret
  exact ⟨by rw [HE.out]; rfl, HB2'.out⟩
set_option maxHeartbeats 800000 in
theorem isTooStale_any (ll : Bool) (pa : Option Addr) (pc : Nat) (ca : Option Addr) (cc : Nat) (ra : Option Addr) (rc : Nat) (r : Rt) (w : World) :
    Calls Tryd.prog 25 #[.bool ll, .agg (rtC pa pc ca cc ra rc r)] w fun e w' => e = .returned (.bool ((r.stale == 2) && !ll)) ∧ Below w.heap.size w w' := by
  have g3 : (rtC pa pc ca cc ra rc r)[10]? = some (.int .i64 r.stale) := rfl
  generalize rtC pa pc ca cc ra rc r = C2 at *
  go_enter Tryd.func25, Tryd.ntmps25
  go_wp2_with fail
  refine kept_box_intro _ _ _ (by rfl) (run_boxS _ C2 w) ?_
  have HB := hide (Bk.new 36 w C2)
  have HW : Hid (Below w.heap.size w (w.alloc (.cells C2 36))) := (Below.refl _ _).alloc (Nat.le_refl _) _
  generalize w.alloc (.cells C2 36) = w1 at *
  have c0 := HB.out.cell 10 g3
  cases hz : (r.stale == 2) with
  | true =>
    go_wp2_with fail
    go_ret
    exact ⟨by rw [hz]; rfl, HW.out⟩
  | false =>
    go_wp2_with fail
    go_ret
    exact ⟨by rw [hz]; rfl, HW.out⟩
end
end Go.Proofs.YthigjonagbfbbaaDoor
