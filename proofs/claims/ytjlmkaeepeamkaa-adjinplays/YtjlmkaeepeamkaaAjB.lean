/- The table's New, Put, Len. -/
import Derived.Test.YtjlmkaeepeamkaaAjA
import Derived.Test.YtjlmkaeepeamkaaMix
import Derived.Carry
namespace Go.Proofs.Ytjlmkaeepeamkaa
open Go.RowKit
set_option maxRecDepth 100000

/-- What points at the table. -/
abbrev tabV (b : Nat) : Value := .pointer (some ⟨b + 1, 0, none⟩)
theorem run_kbuild (A : Nat) (L p : Int) (w : World) : (Instr.build 65 #[(0, .int .i64 p), (1, .agg #[.int .u32 (A : Int), .int .i64 L])]).run Try.prog w = .ok (kV A L p) w := by kernel_rfl
theorem eql_map (b : Nat) (w : World) : (binOp .eql 55 (.map (some b)) (.map none)).run Try.prog w = .ok (.bool false) w := by
  simp only [binOp]
  simp [run_equal_map_nil w 55 _ _ (some b) Try.underlying55]
section
variable {P : Program} {a : Act} {w w' : World} {K : Act → World → Prop} {Q : Exit → Act → World → Prop} {dst : Option Tmp} {ty : TypeId} {pos : String} {after : Array Edge} {gd : Option (Nat × Bool)}
theorem wp_mapUpdate {t : TypeId} (m x y : Operand) (mv xv yv : Value) (hm : a.eval m = mv) (hx : a.eval x = xv) (hy : a.eval y = yv) (hr : (Instr.mapUpdate t mv xv yv).run P w = .ok () w') (h : K (a.put dst undef) w') : Oper.wp P { dst := dst, op := .mapUpdate t m x y, type := ty, pos := pos, after := after, guard := gd } a w K Q := by
  unfold Oper.wp execOp
  simp only [hm, hx, hy, Sem.run_bind, hr, Result.andThen_ok, Sem.run_pure]
  exact h
end
set_option maxHeartbeats 800000 in
theorem new_any (w : World) : Calls Try.prog 8 #[] w fun e w' => e = .returned (tabV w.heap.size) ∧ Tab w' w.heap.size [] ∧ Below w.heap.size w w' := by
  have hmm := @run_makeMap Try.prog
  go_enter Try.func8, Try.ntmps8
  go_wp2
  go_ret
  exact ⟨by simp, Tab.new w, ((Below.refl _ _).alloc (Nat.le_refl _) _).alloc (by simp) _⟩
set_option maxHeartbeats 800000 in
theorem len_any (b : Nat) (l : List Rt) (w : World) (h : Tab w b l) : Calls Try.prog 16 #[tabV b] w fun e w' => e = .returned (.int .i64 (l.length : Int)) ∧ w' = w := by
  have c0 := h.cell
  have hl := h.len
  have hz := h.lt
  clear h
  go_enter Try.func16, Try.ntmps16
  go_wp2
  go_ret
  exact ⟨rfl, rfl⟩
set_option maxHeartbeats 800000 in
theorem len_nil (w : World) : Calls Try.prog 16 #[.pointer none] w fun e w' => e = .returned (.int .i64 0) ∧ w' = w := by
  go_enter Try.func16, Try.ntmps16
  go_wp2
  go_ret
  exact ⟨rfl, rfl⟩
section
attribute [local go_sem ↓] keptR_load keptR_store keptR_box keptR_alloc keptR_build
set_option maxHeartbeats 800000 in
theorem put_nil (C : Array Value) (w : World) : Calls Try.prog 12 #[.pointer none, .agg C] w fun e w' => e = .returned (.tuple #[]) ∧ Below w.heap.size w w' := by
  go_enter Try.func12, Try.ntmps12
  go_wp2_with fail
  refine kept_box_intro _ _ _ (by rfl) (run_boxR C w) ?_
  go_wp2
  exact bodyPost_ret (results_none rfl _ _ _) rfl ⟨rfl, (Below.refl _ _).alloc (Nat.le_refl _) _⟩
set_option maxHeartbeats 3200000 in
theorem put_any (b : Nat) (l : List Rt) (pa : Option Addr) (pc : Nat) (ca : Option Addr) (cc : Nat) (ra : Option Addr) (rc : Nat) (r : Rt) (w : World) (h : Tab w b l) (hs : sizeA r.att ≤ 100000) (hr : AtRd w pa ca ra r.att) :
    Calls Try.prog 12 #[tabV b, rtV pa pc ca cc ra rc r] w fun e w' => e = .returned (.tuple #[]) ∧ Tab w' b (r :: l.filter (fun x => !gone r.A r.L r.peer x)) ∧ Keeps (fun x => x = b) w w' := by
  have HT := hide h
  have HR := hide hr
  have HS := hide hs
  have hz := h.lt
  clear h hr hs
  rw [rtV_eq]
  go_enter Try.func12, Try.ntmps12
  go_wp2_with fail
  refine kept_box_intro _ _ _ (by rfl) (run_boxR (rtC pa pc ca cc ra rc r) w) ?_
  have HB1 : Hid (Below w.heap.size w (w.alloc (.cells (rtC pa pc ca cc ra rc r) 36))) := (Below.refl _ _).alloc (Nat.le_refl _) _
  have HX1 := hide (Bl.new w (rtC pa pc ca cc ra rc r))
  have hs1 : w.heap.size < (w.alloc (.cells (rtC pa pc ca cc ra rc r) 36)).heap.size := by simp
  generalize w.alloc (.cells (rtC pa pc ca cc ra rc r) 36) = w1 at *
  have HT1 := hide (HT.out.later HB1.out)
  have c0 := HT1.out.cell
  have z1 := HT1.out.lt
  have hq := eql_map b
  go_wp2_with fail
  refine region_mix (fun W => W.cell? ⟨b + 1, 0, none⟩ = some (.map (some b)) ∧ Bl W w.heap.size (rtC pa pc ca cc ra rc r)) (fun k => k == 10 || k == 11) (by kernel_rfl) (by kernel_rfl) (by kernel_rfl) ⟨c0, HX1.out.below (Below.refl _ _).drew⟩ ?_
  iterate 9 refine mix_q (by rfl) (by rfl) (fun w9 h9 => (by
    obtain ⟨d0, x9⟩ := h9
    have d1 := x9.cell 0 rfl
    have d2 := x9.cell 1 rfl
    have d3 := x9.cell 2 rfl
    have hk := run_kbuild r.A r.L r.peer
    go_simp; first | done | rfl)) (by go_simp; first | done | rfl) ?_
  refine mix_q (by rfl) (by rfl) (fun w9 h9 => exec_loadR (by rfl) h9.2 (RC.rt _ _ _ _ _ _ _)) (by go_simp; first | done | rfl) ?_
  refine mix_l (by rfl) (by rfl) (by rfl) ?_
  go_simp
  refine (own_any pa pc ca cc ra rc r w1.drew HS.out ((HR.out.below HB1.out).below (Below.refl _ _).drew)).mono ?_
  rintro e w2 ⟨⟨pa9, pc9, ca9, cc9, ra9, rc9, rfl, ho2⟩, hb2⟩
  have hb3 : Below w1.heap.size w1 w2 := (Below.refl _ _).drew.trans hb2
  have HB2 : Hid (Below w.heap.size w w2) := HB1.out.trans (hb3.mono HB1.out.size)
  have HT2 := hide (HT1.out.later hb3)
  have HX2 := hide (HX1.out.below hb3)
  have HO2 : Hid (OwnAt w2 (b + 2) pa9 pc9 ca9 cc9 ra9 rc9 r.att) := ho2.base (by show b + 2 ≤ w1.heap.size; omega)
  have HR2 : Hid (AtRd w2 pa9 ca9 ra9 r.att) := HO2.out.rd HS.out HR.out.next HR.out.raws.bytes
  clear hb2 hb3 ho2
  refine ⟨⟨HT2.out.cell, HX2.out⟩, ?_⟩
  obtain ⟨w3, hrun, t3, k3⟩ := HT2.out.put r HO2.out HR2.out HS.out
  refine mix_l (by rfl) (by rfl) (by rfl) ?_
  refine wp_mapUpdate _ _ _ _ _ _ (by rfl) (by rfl) (by rfl) hrun ?_
  refine ⟨⟨t3.cell, ?_⟩, ?_⟩
  · show w3.heap[w.heap.size]? = _
    rw [k3.block _ HX2.out.lt (by omega)]
    exact HX2.out
  refine ⟨fun _ h => (by cases h), ?_⟩
  have HT3 := hide t3
  have HK3 : Hid (Keeps (fun x => x = b) w w3) := (Keeps.of_below HB2.out _).trans k3 (fun x _ h => h)
  clear hrun t3 k3
  go_wp2
  exact bodyPost_end (results_none rfl _ _ _) rfl ⟨rfl, HT3.out, HK3.out⟩
end
end Go.Proofs.Ytjlmkaeepeamkaa
