/- RouteMarks' walk. -/
import Derived.Test.YtnblkgffgbiemaaWRouteSame
import Derived.Test.YtnblkgffgbiemaaRtQ
namespace Go.Proofs.Ytnblkgffgbiemaa
open Go.RowKit
set_option maxRecDepth 100000

/-- What Mark answers, whether it can be or not. -/
def mk (r : Rt) (st : Int) : Rt := (markR r st).getD noR
theorem OwnAt.nothing (w : World) (B : Nat) : OwnAt w B none 0 none 0 none 0 noR.att := ⟨OwnPath.nil _ _, own_nil _ _ _ _, OwnRaws.nil _ _⟩
theorem mark_pair {w w' : World} {e : Ending} {r : Rt} {st : Int} (h : MarkIs w w' e (markR r st)) : ∃ pa pc ca cc ra rc, e = .returned (.tuple #[.agg (rtC pa pc ca cc ra rc (mk r st)), .bool (markR r st).isSome]) ∧ OwnAt w' w.heap.size pa pc ca cc ra rc (mk r st).att := by
  unfold mk
  cases hm : markR r st with
  | none =>
    rw [hm] at h
    exact ⟨none, 0, none, 0, none, 0, h, OwnAt.nothing _ _⟩
  | some m =>
    rw [hm] at h
    obtain ⟨pa, pc, ca, cc, ra, rc, h1, h2⟩ := h
    exact ⟨pa, pc, ca, cc, ra, rc, h1, h2⟩
theorem rmark_pair {w' : World} {e : Ending} {pa : Option Addr} {pc : Nat} {ra : Option Addr} {rc : Nat} {r : Rt} {st : Int} (h : RMarkIs w' e pa pc ra rc (markR r st)) : ∃ pa pc ca cc ra rc, e = .returned (.tuple #[.agg (rtC pa pc ca cc ra rc (mk r st)), .bool (markR r st).isSome]) ∧ AtRd w' pa ca ra (mk r st).att := by
  unfold mk
  cases hm : markR r st with
  | none =>
    rw [hm] at h
    exact ⟨none, 0, none, 0, none, 0, h, AtRd.none _ _ _ _ _ (by decide)⟩
  | some m =>
    rw [hm] at h
    obtain ⟨ca, cc, h1, h2⟩ := h
    exact ⟨pa, pc, ca, cc, ra, rc, h1, h2⟩
theorem mk_size (r : Rt) (st : Int) (h : sizeA r.att ≤ 3000) : sizeA (mk r st).att ≤ 3001 := by
  unfold mk markR
  split
  · show 0 ≤ 3001; omega
  · show sizeA (markA r st) ≤ 3001
    unfold markA
    split
    · unfold sizeA at *
      simp only [List.length_append, List.length_cons, List.length_nil]
      omega
    · omega
theorem mk_next (r : Rt) (st : Int) (h : r.att.next < 4294967296) : (mk r st).att.next < 4294967296 := by
  unfold mk markR
  split
  · show 0 < 4294967296; omega
  · show (markA r st).next < 4294967296
    unfold markA
    split
    · exact h
    · exact h
theorem mk_bytes (r : Rt) (st : Int) (h : ∀ q ∈ r.att.raws, ∀ x ∈ q.2.2, x < 256) : ∀ q ∈ (mk r st).att.raws, ∀ x ∈ q.2.2, x < 256 := by
  unfold mk markR
  split
  · intro q hq; exact absurd hq (by simp [noR])
  · show ∀ q ∈ (markA r st).raws, ∀ x ∈ q.2.2, x < 256
    unfold markA
    split
    · exact h
    · exact h
theorem run_make_u (n : Nat) (hn : n ≤ 200000) (w : World) : (Instr.makeSlice 26 (.int .i64 0) (.int .i64 (n : Int))).run Try.prog w =
    .ok (.slice (some ⟨w.heap.size, 0, none⟩) 0 n) (w.alloc (.cells (ucells (List.replicate n 0)).toArray 22)) := by
  obtain ⟨i0, hi0, hz0, hz1, hz2⟩ := info_parts Try.infoU32
  have := run_make (P := Try.prog) w 26 22 i0 _ Try.underlying26 hi0 hz0 .i64 .i64 0 (n : Int) (by omega) (by omega) (by rw [hz2]; omega) (by omega)
  simp only [Int.toNat_natCast, hz1, Value.cells, Nat.mul_one, Int.toNat_zero] at this
  rw [this]
  congr 3
  apply Array.ext_getElem?
  intro k
  by_cases hk : k < n
  · simp [madeCells, ucells, hk, Nat.mod_one]
  · simp [madeCells, ucells, hk]
theorem own_room_u (w : World) (n : Nat) (hn : n ≤ 200000) : (w.alloc (.cells (ucells (List.replicate n 0)).toArray 22)).ownsRow w.heap.size 22 1 (.slice (some ⟨w.heap.size, 0, none⟩) 0 n) 0 [] :=
  ⟨by simp, .inr ⟨w.heap.size, n, _, rfl, Nat.le_refl _, by unfold World.alloc; exact Array.getElem?_push_size, Nat.zero_le _, by unfold maxLen; omega, by simp [ucells], by simp⟩⟩
section
variable {P : Program} {a : Act} {w w' : World} {K : Act → World → Prop} {Q : Exit → Act → World → Prop} {dst : Option Tmp} {ty : TypeId} {pos : String} {after : Array Edge} {gd : Option (Nat × Bool)}
theorem opwp_make {t : TypeId} (x y : Operand) (p q v : Value) (hx : a.eval x = p) (hy : a.eval y = q) (hr : (Instr.makeSlice t p q).run P w = .ok v w') (h : K (a.put dst v) w') :
    Oper.wp P { dst := dst, op := .makeSlice t x y, type := ty, pos := pos, after := after, guard := gd } a w K Q := by
  unfold Oper.wp execOp
  simp only [hx, hy, Sem.run_bind, hr, Result.andThen_ok, Sem.run_pure]
  exact h
theorem opwp_app {t : TypeId} (x y : Operand) (p q v : Value) (hx : a.eval x = p) (hy : a.eval y = q) (hr : (Builtin.append_ #[t, t] ty #[p, q]).run P w = .ok v w') (h : K (a.put dst v) w') :
    Oper.wp P { dst := dst, op := .call { callee := .builtin .append, args := #[x, y], argTypes := #[t, t] }, type := ty, pos := pos, after := after, guard := gd } a w K Q := by
  unfold Oper.wp execOp
  simp only [resolve, invoke, builtin, Sem.run_bind, Sem.run_pure, Result.andThen_ok, List.map_toArray, List.map_cons, List.map_nil, hx, hy, hr]
  exact h
end
/-- A row of communities that may be changed. -/
def Bump1 (w : World) (B : Nat) (ca : Option Addr) (n cc : Nat) : Prop := ∃ vs, w.ownsRow B 22 1 (.slice ca n cc) n vs ∧ ∀ j, j < n → ∃ z, vs[j]? = some (.int .u32 z)
theorem Bump1.at {w : World} {B k n cc : Nat} {ca : Option Addr} (h : Bump1 w B ca n cc) (hk : k < n) : ∃ g z, ca = some ⟨g, 0, none⟩ ∧ B ≤ g ∧ g < w.heap.size ∧ w.cell? ⟨g, k, none⟩ = some (.int .u32 z) ∧ w.frozen? ⟨g, k, none⟩ = false := by
  obtain ⟨vs, ho, hv⟩ := h
  obtain ⟨g, cap, e, hg, _⟩ := ho.form (by omega)
  injection e with e1 _ e3
  subst e1 e3
  obtain ⟨z, hz⟩ := hv k hk
  exact ⟨g, z, rfl, hg, (ho.lt g rfl).2, by rw [ho.cellAt k (by omega)]; exact hz, ho.frozenAt k⟩
theorem Bump1.set {w : World} {B k n cc g : Nat} (h : Bump1 w B (some ⟨g, 0, none⟩) n cc) (z : Int) : Bump1 (w.setCell ⟨g, k, none⟩ (.int .u32 z)) B (some ⟨g, 0, none⟩) n cc := by
  obtain ⟨vs, ho, hv⟩ := h
  refine ⟨vs.set k (.int .u32 z), (ho.stored k _).1, fun j hj => ?_⟩
  by_cases e : j = k
  · subst e
    have hl : vs.length = n * 1 := ho.1
    exact ⟨z, by rw [List.getElem?_set_self (by omega)]⟩
  · obtain ⟨y, hy⟩ := hv j hj
    exact ⟨y, by rw [List.getElem?_set_ne (fun e9 => e e9.symm)]; exact hy⟩
theorem Bump1.apart {w : World} {B n cc g Z : Nat} {C : Array Value} (h : Bump1 w B (some ⟨g, 0, none⟩) n cc) (hZ : Bl w Z C) : Z ≠ g := by
  intro e
  subst e
  obtain ⟨vs, ho, _⟩ := h
  rcases ho.2 with ⟨e, _⟩ | ⟨g', cap, cur, e, _, hc, _⟩
  · cases e
  · injection e with e _ _
    injection e with e
    injection e with e _ _
    subst e
    unfold Bl at hZ
    rw [hZ] at hc
    injection hc with hc
    injection hc with _ h9 _
    revert h9
    decide
theorem bump1_of {w : World} {B : Nat} {pa : Option Addr} {pc : Nat} {ca : Option Addr} {cc : Nat} {ra : Option Addr} {rc : Nat} {a : At} (h : OwnAt w B pa pc ca cc ra rc a) : Bump1 w B ca a.comms.length cc :=
  ⟨_, h.comms, fun j hj => ⟨_, by simp only [ucells, List.getElem?_map, List.getElem?_eq_getElem hj]; rfl⟩⟩
section
attribute [local go_sem ↓] keptR_load keptR_store keptR_box keptR_alloc keptR_build keptA_load
set_option maxHeartbeats 3200000 in
theorem marks_great (pa : Option Addr) (pc : Nat) (ca : Option Addr) (cc : Nat) (ra : Option Addr) (rc : Nat) (r : Rt) (st : Int) (w : World) (hba : BigR r) (h1 : AtRd w pa ca ra r.att) (hs : smallR r = false) :
    Calls Try.prog 3 #[rtV pa pc ca cc ra rc r, .int .i64 st] w fun e w' => e = .returned (.bool true) ∧ Below w.heap.size w w' := by
  rw [rtV_eq]
  have HR1 := hide h1
  have HS := hide hs
  clear h1 hs
  go_enter Try.func3, Try.ntmps3
  go_wp2_with fail
  refine kept_box_intro _ _ _ (by rfl) (run_boxR _ w) ?_
  have HB0 : Hid (Below w.heap.size w (w.alloc (.cells (rtC pa pc ca cc ra rc r) 31))) := (Below.refl _ _).alloc (Nat.le_refl _) _
  have HX0 : Hid (Bl (w.alloc (.cells (rtC pa pc ca cc ra rc r) 31)) w.heap.size (rtC pa pc ca cc ra rc r)) := Bl.new w _
  generalize w.alloc (.cells (rtC pa pc ca cc ra rc r) 31) = w0 at *
  go_wp2_with fail
  refine kept_load_intro _ _ _ (by rfl) (run_loadR HX0.out (RC.rt _ _ _ _ _ _ _)) ?_
  go_wp2_with fail
  refine (small_is w0 hba (HR1.out.below HB0.out) HS.out).mono ?_
  rintro e w1 ⟨rfl, hb1⟩
  have HB1 : Hid (Below w.heap.size w w1) := HB0.out.trans (hb1.mono HB0.out.size)
  clear hb1 HX0 HB0
  go_wp2_with fail
  refine (answers_any w1).mono ?_
  rintro e w2 ⟨rfl, hb2⟩
  have HB2 : Hid (Below w.heap.size w w2) := HB1.out.trans (hb2.mono HB1.out.size)
  clear hb2 HB1
  go_wp2
  go_ret
  exact ⟨rfl, HB2.out⟩
set_option maxHeartbeats 6400000 in
theorem marks_small (pa : Option Addr) (pc : Nat) (ca : Option Addr) (cc : Nat) (ra : Option Addr) (rc : Nat) (r : Rt) (st : Int) (w : World) (hba : BigR r) (h1 : AtRd w pa ca ra r.att) (hs : smallR r = true) :
    Calls Try.prog 3 #[rtV pa pc ca cc ra rc r, .int .i64 st] w fun e w' => e = .returned (.bool true) ∧ Below w.heap.size w w' := by
  rw [rtV_eq]
  have HR1 := hide h1
  have HS := hide hs
  have HZ : Hid (sizeA r.att ≤ 3000) := smallR_size hs
  have hn : r.att.comms.length ≤ 3000 := by have := HZ.out; unfold sizeA at this; omega
  have HY : Hid (∀ q ∈ r.att.raws, ∀ x ∈ q.2.2, x < 256) := h1.raws.bytes
  clear h1 hs
  go_enter Try.func3, Try.ntmps3
  go_wp2_with fail
  refine kept_box_intro _ _ _ (by rfl) (run_boxR _ w) ?_
  have HB0 : Hid (Below w.heap.size w (w.alloc (.cells (rtC pa pc ca cc ra rc r) 31))) := (Below.refl _ _).alloc (Nat.le_refl _) _
  have HX0 : Hid (Bl (w.alloc (.cells (rtC pa pc ca cc ra rc r) 31)) w.heap.size (rtC pa pc ca cc ra rc r)) := Bl.new w _
  generalize w.alloc (.cells (rtC pa pc ca cc ra rc r) 31) = w0 at *
  go_wp2_with fail
  refine kept_load_intro _ _ _ (by rfl) (run_loadR HX0.out (RC.rt _ _ _ _ _ _ _)) ?_
  go_wp2_with fail
  refine (small_is w0 hba (HR1.out.below HB0.out) HS.out).mono ?_
  rintro e w1 ⟨rfl, hb1⟩
  have HB1 : Hid (Below w.heap.size w w1) := HB0.out.trans (hb1.mono HB0.out.size)
  have HX1 := hide (HX0.out.below hb1)
  clear hb1 HX0 HB0
  go_wp2_with fail
  refine kept_load_intro _ _ _ (by rfl) (run_loadR HX1.out (RC.rt _ _ _ _ _ _ _)) ?_
  go_wp2_with fail
  refine kept_alloc_intro _ (run_allocR _) ?_
  go_wp2_with fail
  refine kept_store_intro _ _ _ _ (by rfl) (by rfl) (run_storeR (Bl.new w1 zR) rfl (RC.rt _ _ _ _ _ _ _)) ?_
  have hb2 : Below w1.heap.size w1 ((w1.alloc (.cells zR 31)).setCells w1.heap.size 0 (rtC pa pc ca cc ra rc r).toList) := below_puts ((Below.refl _ _).alloc (Nat.le_refl _) _) (Nat.le_refl _) _
  have HY2 : Hid (Bl ((w1.alloc (.cells zR 31)).setCells w1.heap.size 0 (rtC pa pc ca cc ra rc r).toList) w1.heap.size (rtC pa pc ca cc ra rc r)) := (Bl.new w1 zR).put rfl
  have HX2 := hide (HX1.out.below hb2)
  have HB2 : Hid (Below w.heap.size w _) := HB1.out.trans (hb2.mono HB1.out.size)
  have hXY : w.heap.size < w1.heap.size := HX1.out.lt
  obtain ⟨Y, hY⟩ : ∃ Y, Y = w1.heap.size := ⟨_, rfl⟩
  rw [← hY] at HY2 HX2 HB2 hXY ⊢
  generalize (w1.alloc (.cells zR 31)).setCells Y 0 (rtC pa pc ca cc ra rc r).toList = w2 at *
  clear hb2 HB1 HX1 hY
  go_wp2_with fail
  obtain ⟨v3, w3, hr3, ho3, hb3⟩ := app_cells elemU32 ca cc (own_room_u w2.drew (r.att.comms.length + 4) (by omega)) (by simp) (by omega) (cells_u ((HR1.out.comms.below HB2.out).below ((Below.refl _ _).drew.alloc (Nat.le_refl _) _)))
  rw [Nat.zero_add, List.nil_append] at ho3
  obtain ⟨a9, c9, rfl⟩ := own_shape ho3
  have hb23 : Below w2.heap.size w2 w3 := ((Below.refl _ _).drew.alloc (Nat.le_refl _) _).trans hb3
  have HR3 := hide hr3
  have HO3 : Hid (w3.ownsRow w2.heap.size 22 1 (.slice a9 r.att.comms.length c9) r.att.comms.length (ucells r.att.comms)) := ho3
  have HX3 := hide (HX2.out.below hb23)
  have HY3 := hide (HY2.out.below hb23)
  have HB3 : Hid (Below w.heap.size w w3) := HB2.out.trans (hb23.mono HB2.out.size)
  have hY2 := HY2.out.lt
  have hmk := run_make_u (r.att.comms.length + 4) (by omega) w2.drew
  have HMK : Hid ((Instr.makeSlice 26 (.int .i64 0) (.int .i64 ((r.att.comms.length : Int) + 4))).run Try.prog w2.drew = .ok (.slice (some ⟨w2.heap.size, 0, none⟩) 0 (r.att.comms.length + 4)) (w2.drew.alloc (.cells (ucells (List.replicate (r.att.comms.length + 4) 0)).toArray 22))) := hmk
  have HC8 : Hid (w3.cell? ⟨Y, 8, none⟩ = some (.slice ca r.att.comms.length cc) ∧ w3.frozen? ⟨Y, 8, none⟩ = false ∧ Y < w3.heap.size) := ⟨HY3.out.cell 8 rfl, HY3.out.frozen 8, HY3.out.lt⟩
  clear hr3 ho3 hb3 hmk
  have hwr : IntKind.i64.wrap ((r.att.comms.length : Int) + 4) = (r.att.comms.length : Int) + 4 := by rw [IntKind.wrap_i64]; omega
  refine region_ord (fun w' => Bl w' w.heap.size (rtC pa pc ca cc ra rc r)) (fun k => k == 5 || k == 9 || k == 12) [0, 1, 2, 3, 4, 6, 7, 8, 5, 9, 10, 11, 12] (by kernel_rfl) (by kernel_rfl) (by rfl) (by kernel_rfl) (HX2.out.below (Below.refl _ _).drew) ?_
  iterate 4 refine ord_q (by rfl) (by rfl) (by rfl) (fun w9 h9 => (by have p8 := h9.cell 8 (v := .slice ca r.att.comms.length cc) rfl; go_simp; first | done | rfl)) (by go_simp; first | done | rfl) ?_
  refine ord_q (v := .int .i64 ((r.att.comms.length : Int) + 4)) (by rfl) (by rfl) (by rfl) (fun w9 h9 => (by go_simp; first | done | rfl)) (by go_simp; first | done | rfl) ?_
  iterate 3 refine ord_q (by rfl) (by rfl) (by rfl) (fun w9 h9 => (by have p8 := h9.cell 8 (v := .slice ca r.att.comms.length cc) rfl; go_simp; first | done | rfl)) (by go_simp; first | done | rfl) ?_
  refine ord_l (by rfl) (by rfl) (by rfl) ?_
  refine opwp_make _ _ _ _ _ (by rfl) (by rfl) HMK.out ?_
  refine ⟨HX2.out.below ((Below.refl _ _).drew.alloc (Nat.le_refl _) _), ?_⟩
  refine ord_l (by rfl) (by rfl) (by rfl) ?_
  refine opwp_app _ _ _ _ _ (by rfl) (by rfl) HR3.out ?_
  refine ⟨HX3.out, ?_⟩
  iterate 2 refine ord_q (by rfl) (by rfl) (by rfl) (fun w9 h9 => (by go_simp; first | done | rfl)) (by go_simp; first | done | rfl) ?_
  refine ord_l (by rfl) (by rfl) (by rfl) ?_
  obtain ⟨c8, f8, z8⟩ := HC8.out
  go_simp
  refine ⟨HX3.out.other 8 _ (by omega), ?_⟩
  refine ⟨fun _ h => (by cases h), ?_⟩
  have HY4 : Hid (Bl (w3.setCell ⟨Y, 8, none⟩ (.slice a9 r.att.comms.length c9)) Y (rtC pa pc a9 c9 ra rc r)) := HY3.out.set 8 _
  have HX4 := hide (HX3.out.other 8 (.slice a9 r.att.comms.length c9) (Y := Y) (by omega))
  have HB4 : Hid (Below w.heap.size w (w3.setCell ⟨Y, 8, none⟩ (.slice a9 r.att.comms.length c9))) := HB3.out.setCell (by show w.heap.size ≤ Y; omega) _
  have HA4 : Hid (AtRd (w3.setCell ⟨Y, 8, none⟩ (.slice a9 r.att.comms.length c9)) pa a9 ra r.att) := ⟨HR1.out.path.below HB4.out, own_reads (own_keeps HO3.out ((Keeps.refl (fun k => k = Y) w3).setCell _ _ _ (.inl rfl)) (fun b h1 h2 => by omega)), HR1.out.raws.below HB4.out, HR1.out.next⟩
  generalize w3.setCell ⟨Y, 8, none⟩ (.slice a9 r.att.comms.length c9) = w4 at *
  clear c8 f8 z8 HC8 HMK HR3 HO3 HX3 HY3 HB3 HX2 HY2 HB2 hb23 hY2
  go_wp2_with fail
  refine kept_load_intro _ _ _ (by rfl) (run_loadR HY4.out (RC.rt _ _ _ _ _ _ _)) ?_
  go_wp2_with fail
  refine (mark_any pa pc a9 c9 ra rc r st w4 (by have := HZ.out; omega) HA4.out).mono ?_
  rintro e w5 ⟨hm5, hb5⟩
  obtain ⟨pa5, pc5, ca5, cc5, ra5, rc5, rfl, ho5⟩ := mark_pair hm5
  have HO5 := hide ho5
  have HB5 := hide hb5
  clear hm5 ho5 hb5
  go_wp2_with fail
  refine kept_alloc_intro _ (run_allocR _) ?_
  go_wp2_with fail
  refine kept_store_intro _ _ _ _ (by rfl) (by rfl) (run_storeR (Bl.new w5 zR) rfl (RC.rt pa5 pc5 ca5 cc5 ra5 rc5 (mk r st))) ?_
  have hb6 : Below w5.heap.size w5 ((w5.alloc (.cells zR 31)).setCells w5.heap.size 0 (rtC pa5 pc5 ca5 cc5 ra5 rc5 (mk r st)).toList) := below_puts ((Below.refl _ _).alloc (Nat.le_refl _) _) (Nat.le_refl _) _
  have HZ6 : Hid (Bl ((w5.alloc (.cells zR 31)).setCells w5.heap.size 0 (rtC pa5 pc5 ca5 cc5 ra5 rc5 (mk r st)).toList) w5.heap.size (rtC pa5 pc5 ca5 cc5 ra5 rc5 (mk r st))) := (Bl.new w5 zR).put rfl
  have HB6 : Hid (Below w4.heap.size w4 _) := HB5.out.trans (hb6.mono HB5.out.size)
  have HO6 := hide (HO5.out.later hb6)
  obtain ⟨Z, hZ⟩ : ∃ Z, Z = w5.heap.size := ⟨_, rfl⟩
  rw [← hZ] at HZ6 HB6 HO6 ⊢
  generalize (w5.alloc (.cells zR 31)).setCells Z 0 (rtC pa5 pc5 ca5 cc5 ra5 rc5 (mk r st)).toList = w6 at *
  clear hb6 HB5 HO5 hZ
  go_wp2_with fail
  refine kept_load_intro _ _ _ (by rfl) (run_loadR (HX4.out.below HB6.out) (RC.rt _ _ _ _ _ _ _)) ?_
  go_wp2_with fail
  refine (rmark_any pa pc ca cc ra rc r st w6 (by have := HZ.out; omega) (HR1.out.below (HB4.out.trans (HB6.out.mono HB4.out.size)))).mono ?_
  rintro e w7 ⟨hm7, hb7⟩
  obtain ⟨pa7, pc7, ca7, cc7, ra7, rc7, rfl, ho7⟩ := rmark_pair hm7
  have HO7 := hide ho7
  have HB7 := hide hb7
  clear hm7 ho7 hb7
  go_wp2_with fail
  refine kept_alloc_intro _ (run_allocR _) ?_
  go_wp2_with fail
  refine kept_store_intro _ _ _ _ (by rfl) (by rfl) (run_storeR (Bl.new w7 zR) rfl (RC.rt pa7 pc7 ca7 cc7 ra7 rc7 (mk r st))) ?_
  have hb8 : Below w7.heap.size w7 ((w7.alloc (.cells zR 31)).setCells w7.heap.size 0 (rtC pa7 pc7 ca7 cc7 ra7 rc7 (mk r st)).toList) := below_puts ((Below.refl _ _).alloc (Nat.le_refl _) _) (Nat.le_refl _) _
  have HV8 : Hid (Bl ((w7.alloc (.cells zR 31)).setCells w7.heap.size 0 (rtC pa7 pc7 ca7 cc7 ra7 rc7 (mk r st)).toList) w7.heap.size (rtC pa7 pc7 ca7 cc7 ra7 rc7 (mk r st))) := (Bl.new w7 zR).put rfl
  have HB68 : Hid (Below w6.heap.size w6 _) := HB7.out.trans (hb8.mono HB7.out.size)
  have HO8 := hide (HO7.out.below hb8)
  obtain ⟨V, hV⟩ : ∃ V, V = w7.heap.size := ⟨_, rfl⟩
  rw [← hV] at HV8 HB68 HO8 ⊢
  generalize (w7.alloc (.cells zR 31)).setCells V 0 (rtC pa7 pc7 ca7 cc7 ra7 rc7 (mk r st)).toList = w8 at *
  have HB8 : Hid (Below w4.heap.size w4 w8) := HB6.out.trans (HB68.out.mono HB6.out.size)
  have HX8 := hide (HX4.out.below HB8.out)
  have HY8 := hide (HY4.out.below HB8.out)
  have HZ8 := hide (HZ6.out.below HB68.out)
  have HM8 := hide (HO6.out.later HB68.out)
  clear hb8 HB7 HO7 hV HB68 HB6 HO6 HZ6
  go_wp2_with fail
  refine kept_load_intro _ _ _ (by rfl) (run_loadR HY8.out (RC.rt _ _ _ _ _ _ _)) ?_
  go_wp2_with fail
  refine kept_load_intro _ _ _ (by rfl) (run_loadR HX8.out (RC.rt _ _ _ _ _ _ _)) ?_
  go_wp2_with fail
  have HA8 : Hid (∀ w', Below w4.heap.size w4 w' → Calls Try.prog 11 #[.agg (rtC pa pc a9 c9 ra rc r), .agg (rtC pa pc ca cc ra rc r)] w' fun e w'' => e = .returned (.bool true) ∧ Below w'.heap.size w' w'') := fun w' hb => by
    rw [← eqRt_self r]
    exact samer_any pa pc a9 c9 ra rc pa pc ca cc ra rc r r w' (by have := HZ.out; omega) (by have := HZ.out; omega) (HA4.out.below hb) (HR1.out.below (HB4.out.trans (hb.mono HB4.out.size)))
  refine (HA8.out w8 HB8.out).mono ?_
  rintro e w9 ⟨rfl, hb9⟩
  have HB9 : Hid (Below w4.heap.size w4 w9) := HB8.out.trans (hb9.mono HB8.out.size)
  have HZ9 := hide (HZ8.out.below hb9)
  have HV9 := hide (HV8.out.below hb9)
  have HM9 := hide (HM8.out.later hb9)
  have HO9 := hide (HO8.out.below hb9)
  clear hb9 HB8 HX8 HY8 HZ8 HV8 HM8 HO8
  generalize (markR r st).isSome = y
  go_wp2_with fail
  refine kept_load_intro _ _ _ (by rfl) (run_loadR HZ9.out (RC.rt _ _ _ _ _ _ _)) ?_
  go_wp2_with fail
  refine kept_load_intro _ _ _ (by rfl) (run_loadR HV9.out (RC.rt _ _ _ _ _ _ _)) ?_
  go_wp2_with fail
  refine (samer_any pa5 pc5 ca5 cc5 ra5 rc5 pa7 pc7 ca7 cc7 ra7 rc7 (mk r st) (mk r st) w9 (by have := mk_size r st HZ.out; omega) (by have := mk_size r st HZ.out; omega) (HM9.out.rd (by have := mk_size r st HZ.out; omega) (mk_next r st HR1.out.next) (mk_bytes r st HY.out)) HO9.out).mono ?_
  rw [eqRt_self]
  rintro e w10 ⟨rfl, hb10⟩
  have HB10 : Hid (Below w4.heap.size w4 w10) := HB9.out.trans (hb10.mono HB9.out.size)
  have HZ10 := hide (HZ9.out.below hb10)
  have HU10 := hide (bump1_of (HM9.out.later hb10))
  have hn5 : (mk r st).att.comms.length ≤ 3001 := by have := mk_size r st HZ.out; unfold sizeA at this; omega
  clear hb10 HB9 HZ9 HV9 HM9 HO9
  have HC5 : Hid ((rtC pa5 pc5 ca5 cc5 ra5 rc5 (mk r st))[8]? = some (.slice ca5 (mk r st).att.comms.length cc5)) := rfl
  generalize rtC pa5 pc5 ca5 cc5 ra5 rc5 (mk r st) = C5 at *
  generalize (mk r st).att.comms.length = n5 at *
  go_wp2_with fail
  go_loopw [10] (fun i wq => ∃ k : Nat, k ≤ n5 ∧ i = .int .i64 k ∧ Hid (Below w4.heap.size w4 wq) ∧ Hid (Bl wq Z C5) ∧ Hid (Bump1 wq w4.heap.size ca5 n5 cc5)) (fun i _ => n5 - (intOf i).toNat)
  case atStart => exact ⟨0, Nat.zero_le _, rfl, HB10, HZ10, HU10⟩
  case round =>
    clear HB10 HZ10 HU10
    obtain ⟨k, hk, rfl, HB, HZZ, HU⟩ := hrel
    have c8 : wr.cell? ⟨Z, 8, none⟩ = some (.slice ca5 n5 cc5) := HZZ.out.cell 8 HC5.out
    have zZ := HZZ.out.lt
    by_cases hlt : k < n5
    · obtain ⟨g, z, rfl, hg, zg, cg, fg⟩ := HU.out.at hlt
      have HUU : Hid (∀ y, Bump1 (wr.setCell ⟨g, k, none⟩ (.int .u32 y)) w4.heap.size (some ⟨g, 0, none⟩) n5 cc5) := fun y => HU.out.set y
      have HZU : Hid (∀ y, Bl (wr.setCell ⟨g, k, none⟩ y) Z C5) := fun y => HZZ.out.other k y (HU.out.apart HZZ.out)
      have HBU : Hid (∀ y, Below w4.heap.size w4 (wr.setCell ⟨g, k, none⟩ y)) := fun y => HB.out.setCell hg y
      have hk0 : (0 : Int) ≤ (k : Int) := Int.natCast_nonneg _
      have hk1 : (k : Int) < (n5 : Int) := by omega
      go_wp2
      exact ⟨⟨k + 1, by omega, by go_num, HBU.out _, HZU.out _, HUU.out _⟩, by simp [intOf]; omega⟩
    · go_wp2_with fail
      refine (answers_any wr).mono ?_
      rintro e w11 ⟨rfl, hb11⟩
      have HB11 : Hid (Below w4.heap.size w4 w11) := HB.out.trans (hb11.mono HB.out.size)
      clear hb11 HB HZZ HU c8 zZ
      go_wp2_with fail
      refine kept_load_intro _ _ _ (by rfl) (run_loadR (HY4.out.below HB11.out) (RC.rt _ _ _ _ _ _ _)) ?_
      go_wp2_with fail
      refine kept_load_intro _ _ _ (by rfl) (run_loadR (HX4.out.below HB11.out) (RC.rt _ _ _ _ _ _ _)) ?_
      go_wp2_with fail
      refine (HA8.out w11 HB11.out).mono ?_
      rintro e w12 ⟨rfl, hb12⟩
      have HB12 : Hid (Below w.heap.size w w12) := HB4.out.trans ((HB11.out.trans (hb12.mono HB11.out.size)).mono HB4.out.size)
      clear hb12
      go_wp2
      go_ret
      exact ⟨rfl, HB12.out⟩
end
theorem routeMarks_walk (pa : Option Addr) (pc : Nat) (ca : Option Addr) (cc : Nat) (ra : Option Addr) (rc : Nat) (r : Rt) (st : Int) (w : World) (hba : BigR r) (h1 : AtRd w pa ca ra r.att) :
    Calls Try.prog 3 #[rtV pa pc ca cc ra rc r, .int .i64 st] w fun e w' => e = .returned (.bool true) ∧ Below w.heap.size w w' := by
  cases hs : smallR r with
  | false => exact marks_great pa pc ca cc ra rc r st w hba h1 hs
  | true => exact marks_small pa pc ca cc ra rc r st w hba h1 hs
end Go.Proofs.Ytnblkgffgbiemaa
