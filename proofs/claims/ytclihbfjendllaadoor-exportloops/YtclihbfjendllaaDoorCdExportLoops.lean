/- ExportLoops's card from its walk. -/
import Derived.Test.YtclihbfjendllaaDoorAtFr
import Derived.Test.YtclihbfjendllaaDoorAtLd
import Derived.Test.YtclihbfjendllaaDoorKAq
import Derived.Test.YtclihbfjendllaaDoorExQ
namespace Go.Proofs.YtclihbfjendllaaDoor
open Go.ChangeShapes Go.WideShapes Go.ChangeAt Go.RowKit
set_option maxRecDepth 100000
set_option linter.unusedVariables false

set_option maxRecDepth 100000 in
theorem exportLoops_met (os : Os) : laidMet Tryd.prog Rows.exportLoopsRow.laid ((laidW os).forCall (fun _ _ => 0) ⟨#[], #[.agg #[.int .i64 0, .int .u32 0, .int .u32 0, .int .i64 0, .int .i64 0, .int .i64 0, .int .i64 0, .int .i64 0], .agg #[.int .i64 0, .int .i64 0, .slice none 0 0, .slice none 0 0], .agg #[.int .u32 0, .int .i64 0, .int .i64 0, .int .i64 0, .slice none 0 0, .int .u32 0, .int .i64 0, .int .i64 0, .slice none 0 0, .slice none 0 0, .int .i64 0], .int .i64 0], []⟩).memory :=
  laidMet_of_run' 8 (by kernel_rfl) (by kernel_rfl)
set_option maxRecDepth 100000 in
theorem exportLoops_reads (os : Os) {H : Type} (enc : TypeId × Value → H) : DataW.whole enc Tryd.prog ((laidW os).forCall (fun _ _ => 0) ⟨#[], #[.agg #[.int .i64 0, .int .u32 0, .int .u32 0, .int .i64 0, .int .i64 0, .int .i64 0, .int .i64 0, .int .i64 0], .agg #[.int .i64 0, .int .i64 0, .slice none 0 0, .slice none 0 0], .agg #[.int .u32 0, .int .i64 0, .int .i64 0, .int .i64 0, .slice none 0 0, .int .u32 0, .int .i64 0, .int .i64 0, .slice none 0 0, .slice none 0 0, .int .i64 0], .int .i64 0], []⟩).memory Tryd.f4.params.toList Rows.exportLoopsSpec.vars false (#[.agg #[.int .i64 0, .int .u32 0, .int .u32 0, .int .i64 0, .int .i64 0, .int .i64 0, .int .i64 0, .int .i64 0], .agg #[.int .i64 0, .int .i64 0, .slice none 0 0, .slice none 0 0], .agg #[.int .u32 0, .int .i64 0, .int .i64 0, .int .i64 0, .slice none 0 0, .int .u32 0, .int .i64 0, .int .i64 0, .slice none 0 0, .slice none 0 0, .int .i64 0], .int .i64 0] : Array Value).toList 8 = some ([.agg [.lit (.int .i64 0), .lit (.int .u32 0), .lit (.int .u32 0), .lit (.int .i64 0), .lit (.int .i64 0), .lit (.int .i64 0), .lit (.int .i64 0), .lit (.int .i64 0)], .agg [.lit (.int .i64 0), .lit (.int .i64 0), .nil, .nil], .agg [.agg [.lit (.int .u32 0), .lit (.int .i64 0)], .lit (.int .i64 0), .agg [.lit (.int .i64 0), .nil, .lit (.int .u32 0), .lit (.int .i64 0), .lit (.int .i64 0), .nil, .nil], .lit (.int .i64 0)], .lit (.int .i64 0)], [], []) := by kernel_rfl
set_option maxRecDepth 100000 in
set_option maxHeartbeats 1600000 in
theorem exportLoops_frame (walk : ∀ (c0 : Cfg) (ia1 : Option Addr) (ic1 : Nat) (oa1 : Option Addr) (oc1 : Nat) (pe1 : Pcf) (pa2 : Option Addr) (pc2 : Nat) (ca2 : Option Addr) (cc2 : Nat) (ra2 : Option Addr) (rc2 : Nat) (rt2 : Rt) (z3 : Int) (W : World), Said W → c0.next < 4294967296 → RulesIn W oa1 pe1.out → rt2.A < 4294967296 → BigR rt2 → AtRd W pa2 ca2 ra2 rt2.att → (Lit.int IntKind.i64 z3).wf = true → Calls Tryd.prog 4 #[.agg (cfgC c0), .agg (pcfC ia1 ic1 oa1 oc1 pe1), rtV pa2 pc2 ca2 cc2 ra2 rc2 rt2, .int .i64 z3] W fun e W' => e = .returned (.bool true) ∧ Below W.heap.size W W') (os : Os) (started : os.Started) (H : Type) (enc : TypeId × Value → H) (F : Stop.Interp) :
    ReturnsInHanded {} Tryd.checked os 4 .any ((OpenSpec.ofChange Rows.exportLoopsSpec).preRow enc Tryd.prog Tryd.f4 Rows.exportLoopsRow.domain false Rows.exportLoopsRow.laid) (((OpenSpec.ofChange Rows.exportLoopsSpec).at F).post enc Tryd.prog Tryd.f4 false true false false) := by
  refine returnsInHanded_of_row (C := Tryd.checked) (s := OpenSpec.ofChange Rows.exportLoopsSpec) ownKnob_no started (by kernel_rfl) Tryd.func4
    (witness_row_at (enc := enc) (C := Tryd.checked) false (laidW os) #[.agg #[.int .i64 0, .int .u32 0, .int .u32 0, .int .i64 0, .int .i64 0, .int .i64 0, .int .i64 0, .int .i64 0], .agg #[.int .i64 0, .int .i64 0, .slice none 0 0, .slice none 0 0], .agg #[.int .u32 0, .int .i64 0, .int .i64 0, .int .i64 0, .slice none 0 0, .int .u32 0, .int .i64 0, .int .i64 0, .slice none 0 0, .slice none 0 0, .int .i64 0], .int .i64 0] rfl (by kernel_rfl) (by kernel_rfl) (by kernel_rfl)
      (OpenSpec.preRow_of_cond 8 (exportLoops_reads os enc) (by kernel_rfl) (fun k hk => by cases hk) (by kernel_rfl) (exportLoops_met os))) ?_
  intro W base args ds gs before hval0 hW hcnd _ hsz0 hL _ _
  have hval : ∀ (j : Nat) t v, Tryd.f4.params[j]? = some t → args[j]? = some v → Value.okWide Tryd.prog W .any base t v := hval0
  have hsz : (DataW.weightsEach Tryd.prog (Tryd.f4.params.toList ++ Rows.exportLoopsSpec.plain.varTypes Tryd.prog) (ds ++ gs)).all (· ≤ reachBytes) = true := hsz0
  have hW' := hW
  obtain ⟨p, q, hA0, hV, rfl, hfz, hnd⟩ := hW
  have hA : DataW.TrodAll enc Tryd.prog W 0 (fun _ => true) true Tryd.f4.params.toList args.toList ds p := hA0
  rw [Tryd.params4] at hA hval hsz
  obtain ⟨v0, vs0, d0, ds0, p0, q0, hargs, rfl, rfl, h0, r0⟩ := trodAll_cons hA
  obtain ⟨v1, vs1, d1, ds1, p1, q1, rfl, rfl, rfl, h1, r1⟩ := trodAll_cons r0
  obtain ⟨v2, vs2, d2, ds2, p2, q2, rfl, rfl, rfl, h2, r2⟩ := trodAll_cons r1
  obtain ⟨v3, vs3, d3, ds3, p3, q3, rfl, rfl, rfl, h3, r3⟩ := trodAll_cons r2
  obtain ⟨rfl, rfl, rfl⟩ := trodAll_nil r3
  obtain rfl : args = #[v0, v1, v2, v3] := by cases args; simp_all
  obtain ⟨rfl, rfl⟩ := trodVars_none hV
  have k0 := h0
  have lt0 : ∀ x ∈ p0, x.block < W.heap.size := by obtain ⟨m, hm⟩ := k0; exact DataW.trod_lt m _ _ _ hm
  have k1 := h1
  have lt1 : ∀ x ∈ p1, x.block < W.heap.size := by obtain ⟨m, hm⟩ := k1; exact DataW.trod_lt m _ _ _ hm
  have k2 := h2
  have lt2 : ∀ x ∈ p2, x.block < W.heap.size := by obtain ⟨m, hm⟩ := k2; exact DataW.trod_lt m _ _ _ hm
  obtain ⟨c0, rfl, hc0⟩ := cfg_val (hval 0 24 v0 rfl rfl) h0
  obtain ⟨ia1, ic1, oa1, oc1, pe1, rfl, hp1⟩ := pcf_val (hval 1 27 v1 rfl rfl) h1
  obtain ⟨pa2, pc2, ca2, cc2, ra2, rc2, rt2, rfl, hr2, hg2, ha2⟩ := route_val2 (hval 2 36 v2 rfl rfl) h2 fun n hn => of_decide_eq_true (List.all_eq_true.1 hsz n (DataW.weights_mem_each (j := 2) rfl rfl n hn))
  obtain ⟨z3, rfl, rfl, rfl, w3⟩ := open_int Tryd.underlying3 (hval 3 3 v3 rfl rfl) h3
  clear hA0 hval0 hsz hsz0
  refine (walk c0 ia1 ic1 oa1 oc1 pe1 pa2 pc2 ca2 cc2 ra2 rc2 rt2 z3 W (said_of hL) hc0 hp1 hr2 hg2 ha2 w3).mono fun e W' ⟨he, bel⟩ => ?_
  subst he
  exact ⟨_, rfl, _, _, _, [], _, [], hW', trodAll_mk1 (shut_bool Tryd.underlying4 _), (trodAll_cons_mk (Below.trod laid_all (by kernel_rfl) (of_decide_eq_true (by kernel_rfl)) k0 bel lt0) (trodAll_cons_mk (Below.trod laid_all (by kernel_rfl) (of_decide_eq_true (by kernel_rfl)) k1 bel lt1) (trodAll_cons_mk (Below.trod laid_all (by kernel_rfl) (of_decide_eq_true (by kernel_rfl)) k2 bel lt2) (trodAll_cons_mk (shut_int Tryd.underlying3 w3) trodAll_mk0)))), rfl, bel.frame _, fun h => by cases h⟩
theorem exportLoops_over (walk : ∀ (c0 : Cfg) (ia1 : Option Addr) (ic1 : Nat) (oa1 : Option Addr) (oc1 : Nat) (pe1 : Pcf) (pa2 : Option Addr) (pc2 : Nat) (ca2 : Option Addr) (cc2 : Nat) (ra2 : Option Addr) (rc2 : Nat) (rt2 : Rt) (z3 : Int) (W : World), Said W → c0.next < 4294967296 → RulesIn W oa1 pe1.out → rt2.A < 4294967296 → BigR rt2 → AtRd W pa2 ca2 ra2 rt2.att → (Lit.int IntKind.i64 z3).wf = true → Calls Tryd.prog 4 #[.agg (cfgC c0), .agg (pcfC ia1 ic1 oa1 oc1 pe1), rtV pa2 pc2 ca2 cc2 ra2 rc2 rt2, .int .i64 z3] W fun e W' => e = .returned (.bool true) ∧ Below W.heap.size W W') : Rows.exportLoopsRow.holds Tryd.pinned (OpenSpec.ofChange Rows.exportLoopsSpec) :=
  OpenClaim.holds_of_cond 4 Tryd.f4 rfl rfl rfl rfl rfl rfl rfl ⟨rfl, rfl, rfl, rfl, rfl⟩ rfl rfl rfl rfl rfl (by kernel_rfl) Tryd.func4 (by kernel_rfl)
    (of_decide_eq_true (by kernel_rfl)) (by unfold Func.isWrapper; first | (rw [if_pos (by decide +kernel)]; kernel_rfl) | (rw [if_neg (by decide +kernel)]; exact ⟨rfl, rfl⟩))
    (fun os started H enc _ F => by rw [OpenClaim.pre_eq_preRow]; exact exportLoops_frame walk os started H enc F)
theorem exportLoops_plain (f : FuncId) (fn : Func) (hf : Tryd.pinned.checked.prog.funcNamed "interregnum/interregnumlaw16.ExportLoops" = some f) (hfn : Tryd.pinned.checked.prog.funcs[f]? = some fn) :
    false = Tryd.pinned.checked.prog.looks [] ∧ ∀ (j : Nat) t, fn.params[j]? = some t → Tryd.pinned.checked.prog.wantsStandIn t = false := by
  obtain rfl : f = 4 := Option.some.inj ((show Tryd.prog.funcNamed "interregnum/interregnumlaw16.ExportLoops" = some 4 by kernel_rfl).symm.trans hf) |>.symm
  obtain rfl : fn = Tryd.f4 := (Option.some.inj (Tryd.func4.symm.trans hfn)).symm
  refine ⟨by kernel_rfl, fun j t ht => ?_⟩
  rw [Tryd.params4] at ht
  have h9 : t = 24 ∨ t = 27 ∨ t = 36 ∨ t = 3 := by simpa using Array.mem_of_getElem? ht
  rcases h9 with rfl | rfl | rfl | rfl
  · exact (show Tryd.prog.wantsStandIn 24 = false by kernel_rfl)
  · exact (show Tryd.prog.wantsStandIn 27 = false by kernel_rfl)
  · exact (show Tryd.prog.wantsStandIn 36 = false by kernel_rfl)
  · exact (show Tryd.prog.wantsStandIn 3 = false by kernel_rfl)
theorem exportLoops_carded (walk : ∀ (c0 : Cfg) (ia1 : Option Addr) (ic1 : Nat) (oa1 : Option Addr) (oc1 : Nat) (pe1 : Pcf) (pa2 : Option Addr) (pc2 : Nat) (ca2 : Option Addr) (cc2 : Nat) (ra2 : Option Addr) (rc2 : Nat) (rt2 : Rt) (z3 : Int) (W : World), Said W → c0.next < 4294967296 → RulesIn W oa1 pe1.out → rt2.A < 4294967296 → BigR rt2 → AtRd W pa2 ca2 ra2 rt2.att → (Lit.int IntKind.i64 z3).wf = true → Calls Tryd.prog 4 #[.agg (cfgC c0), .agg (pcfC ia1 ic1 oa1 oc1 pe1), rtV pa2 pc2 ca2 cc2 ra2 rc2 rt2, .int .i64 z3] W fun e W' => e = .returned (.bool true) ∧ Below W.heap.size W W') : Rows.ExportLoopsCardSaid :=
  Claim7.holds_tied_plain_at .later [] _ _ _ _ (exportLoops_over walk) (fun _ h => by cases h) (by kernel_rfl) (fun _ h => by cases h) exportLoops_row_tie rfl ⟨rfl, rfl⟩ (by kernel_rfl) rfl exportLoops_plain (by kernel_rfl)
end Go.Proofs.YtclihbfjendllaaDoor
