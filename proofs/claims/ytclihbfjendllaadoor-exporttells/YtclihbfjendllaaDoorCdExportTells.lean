/- ExportTells's card from its walk. -/
import Derived.Test.YtclihbfjendllaaDoorAtFr
import Derived.Test.YtclihbfjendllaaDoorAtLd
import Derived.Test.YtclihbfjendllaaDoorKAq
import Derived.Test.YtclihbfjendllaaDoorExR
namespace Go.Proofs.YtclihbfjendllaaDoor
open Go.ChangeShapes Go.WideShapes Go.ChangeAt Go.RowKit
set_option maxRecDepth 100000
set_option linter.unusedVariables false

set_option maxRecDepth 100000 in
theorem exportTells_met (os : Os) : laidMet Tryd.prog Rows.exportTellsRow.laid ((laidW os).forCall (fun _ _ => 0) ⟨#[], #[.agg #[.int .i64 0, .int .u32 0, .int .u32 0, .int .i64 0, .int .i64 0, .int .i64 0, .int .i64 0, .int .i64 0], .agg #[.int .i64 0, .int .i64 0, .slice none 0 0, .slice none 0 0], .bool false, .agg #[.int .u32 0, .int .i64 0, .int .i64 0, .int .i64 0, .slice none 0 0, .int .u32 0, .int .i64 0, .int .i64 0, .slice none 0 0, .slice none 0 0, .int .i64 0], .int .i64 0], []⟩).memory :=
  laidMet_of_run' 8 (by kernel_rfl) (by kernel_rfl)
set_option maxRecDepth 100000 in
theorem exportTells_reads (os : Os) {H : Type} (enc : TypeId × Value → H) : DataW.whole enc Tryd.prog ((laidW os).forCall (fun _ _ => 0) ⟨#[], #[.agg #[.int .i64 0, .int .u32 0, .int .u32 0, .int .i64 0, .int .i64 0, .int .i64 0, .int .i64 0, .int .i64 0], .agg #[.int .i64 0, .int .i64 0, .slice none 0 0, .slice none 0 0], .bool false, .agg #[.int .u32 0, .int .i64 0, .int .i64 0, .int .i64 0, .slice none 0 0, .int .u32 0, .int .i64 0, .int .i64 0, .slice none 0 0, .slice none 0 0, .int .i64 0], .int .i64 0], []⟩).memory Tryd.f3.params.toList Rows.exportTellsSpec.vars false (#[.agg #[.int .i64 0, .int .u32 0, .int .u32 0, .int .i64 0, .int .i64 0, .int .i64 0, .int .i64 0, .int .i64 0], .agg #[.int .i64 0, .int .i64 0, .slice none 0 0, .slice none 0 0], .bool false, .agg #[.int .u32 0, .int .i64 0, .int .i64 0, .int .i64 0, .slice none 0 0, .int .u32 0, .int .i64 0, .int .i64 0, .slice none 0 0, .slice none 0 0, .int .i64 0], .int .i64 0] : Array Value).toList 8 = some ([.agg [.lit (.int .i64 0), .lit (.int .u32 0), .lit (.int .u32 0), .lit (.int .i64 0), .lit (.int .i64 0), .lit (.int .i64 0), .lit (.int .i64 0), .lit (.int .i64 0)], .agg [.lit (.int .i64 0), .lit (.int .i64 0), .nil, .nil], .lit (.bool false), .agg [.agg [.lit (.int .u32 0), .lit (.int .i64 0)], .lit (.int .i64 0), .agg [.lit (.int .i64 0), .nil, .lit (.int .u32 0), .lit (.int .i64 0), .lit (.int .i64 0), .nil, .nil], .lit (.int .i64 0)], .lit (.int .i64 0)], [], []) := by kernel_rfl
set_option maxRecDepth 100000 in
set_option maxHeartbeats 1600000 in
theorem exportTells_frame (walk : ∀ (c0 : Cfg) (ia1 : Option Addr) (ic1 : Nat) (oa1 : Option Addr) (oc1 : Nat) (pe1 : Pcf) (b2 : Bool) (pa3 : Option Addr) (pc3 : Nat) (ca3 : Option Addr) (cc3 : Nat) (ra3 : Option Addr) (rc3 : Nat) (rt3 : Rt) (z4 : Int) (W : World), Said W → c0.next < 4294967296 → RulesIn W oa1 pe1.out → True → rt3.A < 4294967296 → BigR rt3 → AtRd W pa3 ca3 ra3 rt3.att → rt3.att.path.length ≤ pc3 → (Lit.int IntKind.i64 z4).wf = true → Calls Tryd.prog 3 #[.agg (cfgC c0), .agg (pcfC ia1 ic1 oa1 oc1 pe1), .bool b2, rtV pa3 pc3 ca3 cc3 ra3 rc3 rt3, .int .i64 z4] W fun e W' => e = .returned (.bool true) ∧ Below W.heap.size W W') (os : Os) (started : os.Started) (H : Type) (enc : TypeId × Value → H) (F : Stop.Interp) :
    ReturnsInHanded {} Tryd.checked os 3 .any ((OpenSpec.ofChange Rows.exportTellsSpec).preRow enc Tryd.prog Tryd.f3 Rows.exportTellsRow.domain false Rows.exportTellsRow.laid) (((OpenSpec.ofChange Rows.exportTellsSpec).at F).post enc Tryd.prog Tryd.f3 false true false false) := by
  refine returnsInHanded_of_row (C := Tryd.checked) (s := OpenSpec.ofChange Rows.exportTellsSpec) ownKnob_no started (by kernel_rfl) Tryd.func3
    (witness_row_at (enc := enc) (C := Tryd.checked) false (laidW os) #[.agg #[.int .i64 0, .int .u32 0, .int .u32 0, .int .i64 0, .int .i64 0, .int .i64 0, .int .i64 0, .int .i64 0], .agg #[.int .i64 0, .int .i64 0, .slice none 0 0, .slice none 0 0], .bool false, .agg #[.int .u32 0, .int .i64 0, .int .i64 0, .int .i64 0, .slice none 0 0, .int .u32 0, .int .i64 0, .int .i64 0, .slice none 0 0, .slice none 0 0, .int .i64 0], .int .i64 0] rfl (by kernel_rfl) (by kernel_rfl) (by kernel_rfl)
      (OpenSpec.preRow_of_cond 8 (exportTells_reads os enc) (by kernel_rfl) (fun k hk => by cases hk) (by kernel_rfl) (exportTells_met os))) ?_
  intro W base args ds gs before hval0 hW hcnd _ hsz0 hL _ _
  have hval : ∀ (j : Nat) t v, Tryd.f3.params[j]? = some t → args[j]? = some v → Value.okWide Tryd.prog W .any base t v := hval0
  have hsz : (DataW.weightsEach Tryd.prog (Tryd.f3.params.toList ++ Rows.exportTellsSpec.plain.varTypes Tryd.prog) (ds ++ gs)).all (· ≤ reachBytes) = true := hsz0
  have hW' := hW
  obtain ⟨p, q, hA0, hV, rfl, hfz, hnd⟩ := hW
  have hA : DataW.TrodAll enc Tryd.prog W 0 (fun _ => true) true Tryd.f3.params.toList args.toList ds p := hA0
  rw [Tryd.params3] at hA hval hsz
  obtain ⟨v0, vs0, d0, ds0, p0, q0, hargs, rfl, rfl, h0, r0⟩ := trodAll_cons hA
  obtain ⟨v1, vs1, d1, ds1, p1, q1, rfl, rfl, rfl, h1, r1⟩ := trodAll_cons r0
  obtain ⟨v2, vs2, d2, ds2, p2, q2, rfl, rfl, rfl, h2, r2⟩ := trodAll_cons r1
  obtain ⟨v3, vs3, d3, ds3, p3, q3, rfl, rfl, rfl, h3, r3⟩ := trodAll_cons r2
  obtain ⟨v4, vs4, d4, ds4, p4, q4, rfl, rfl, rfl, h4, r4⟩ := trodAll_cons r3
  obtain ⟨rfl, rfl, rfl⟩ := trodAll_nil r4
  obtain rfl : args = #[v0, v1, v2, v3, v4] := by cases args; simp_all
  obtain ⟨rfl, rfl⟩ := trodVars_none hV
  have k0 := h0
  have lt0 : ∀ x ∈ p0, x.block < W.heap.size := by obtain ⟨m, hm⟩ := k0; exact DataW.trod_lt m _ _ _ hm
  have k1 := h1
  have lt1 : ∀ x ∈ p1, x.block < W.heap.size := by obtain ⟨m, hm⟩ := k1; exact DataW.trod_lt m _ _ _ hm
  have k3 := h3
  have lt3 : ∀ x ∈ p3, x.block < W.heap.size := by obtain ⟨m, hm⟩ := k3; exact DataW.trod_lt m _ _ _ hm
  obtain ⟨c0, rfl, hc0⟩ := cfg_val (hval 0 24 v0 rfl rfl) h0
  obtain ⟨ia1, ic1, oa1, oc1, pe1, rfl, hp1⟩ := pcf_val (hval 1 27 v1 rfl rfl) h1
  obtain ⟨b2, rfl, rfl, rfl⟩ := open_bool Tryd.underlying4 (hval 2 4 v2 rfl rfl) h2
  obtain ⟨pa3, pc3, ca3, cc3, ra3, rc3, rt3, rfl, hr3, hg3, ha3, hl3⟩ := route_val3 (hval 3 36 v3 rfl rfl) h3 fun n hn => of_decide_eq_true (List.all_eq_true.1 hsz n (DataW.weights_mem_each (j := 3) rfl rfl n hn))
  obtain ⟨z4, rfl, rfl, rfl, w4⟩ := open_int Tryd.underlying3 (hval 4 3 v4 rfl rfl) h4
  clear hA0 hval0 hsz hsz0
  refine (walk c0 ia1 ic1 oa1 oc1 pe1 b2 pa3 pc3 ca3 cc3 ra3 rc3 rt3 z4 W (said_of hL) hc0 hp1 trivial hr3 hg3 ha3 hl3 w4).mono fun e W' ⟨he, bel⟩ => ?_
  subst he
  exact ⟨_, rfl, _, _, _, [], _, [], hW', trodAll_mk1 (shut_bool Tryd.underlying4 _), (trodAll_cons_mk (Below.trod laid_all (by kernel_rfl) (of_decide_eq_true (by kernel_rfl)) k0 bel lt0) (trodAll_cons_mk (Below.trod laid_all (by kernel_rfl) (of_decide_eq_true (by kernel_rfl)) k1 bel lt1) (trodAll_cons_mk (shut_bool Tryd.underlying4 b2) (trodAll_cons_mk (Below.trod laid_all (by kernel_rfl) (of_decide_eq_true (by kernel_rfl)) k3 bel lt3) (trodAll_cons_mk (shut_int Tryd.underlying3 w4) trodAll_mk0))))), rfl, bel.frame _, fun h => by cases h⟩
theorem exportTells_over (walk : ∀ (c0 : Cfg) (ia1 : Option Addr) (ic1 : Nat) (oa1 : Option Addr) (oc1 : Nat) (pe1 : Pcf) (b2 : Bool) (pa3 : Option Addr) (pc3 : Nat) (ca3 : Option Addr) (cc3 : Nat) (ra3 : Option Addr) (rc3 : Nat) (rt3 : Rt) (z4 : Int) (W : World), Said W → c0.next < 4294967296 → RulesIn W oa1 pe1.out → True → rt3.A < 4294967296 → BigR rt3 → AtRd W pa3 ca3 ra3 rt3.att → rt3.att.path.length ≤ pc3 → (Lit.int IntKind.i64 z4).wf = true → Calls Tryd.prog 3 #[.agg (cfgC c0), .agg (pcfC ia1 ic1 oa1 oc1 pe1), .bool b2, rtV pa3 pc3 ca3 cc3 ra3 rc3 rt3, .int .i64 z4] W fun e W' => e = .returned (.bool true) ∧ Below W.heap.size W W') : Rows.exportTellsRow.holds Tryd.pinned (OpenSpec.ofChange Rows.exportTellsSpec) :=
  OpenClaim.holds_of_cond 3 Tryd.f3 rfl rfl rfl rfl rfl rfl rfl ⟨rfl, rfl, rfl, rfl, rfl⟩ rfl rfl rfl rfl rfl (by kernel_rfl) Tryd.func3 (by kernel_rfl)
    (of_decide_eq_true (by kernel_rfl)) (by unfold Func.isWrapper; first | (rw [if_pos (by decide +kernel)]; kernel_rfl) | (rw [if_neg (by decide +kernel)]; exact ⟨rfl, rfl⟩))
    (fun os started H enc _ F => by rw [OpenClaim.pre_eq_preRow]; exact exportTells_frame walk os started H enc F)
theorem exportTells_plain (f : FuncId) (fn : Func) (hf : Tryd.pinned.checked.prog.funcNamed "interregnum/interregnumlaw16.ExportTells" = some f) (hfn : Tryd.pinned.checked.prog.funcs[f]? = some fn) :
    false = Tryd.pinned.checked.prog.looks [] ∧ ∀ (j : Nat) t, fn.params[j]? = some t → Tryd.pinned.checked.prog.wantsStandIn t = false := by
  obtain rfl : f = 3 := Option.some.inj ((show Tryd.prog.funcNamed "interregnum/interregnumlaw16.ExportTells" = some 3 by kernel_rfl).symm.trans hf) |>.symm
  obtain rfl : fn = Tryd.f3 := (Option.some.inj (Tryd.func3.symm.trans hfn)).symm
  refine ⟨by kernel_rfl, fun j t ht => ?_⟩
  rw [Tryd.params3] at ht
  have h9 : t = 24 ∨ t = 27 ∨ t = 4 ∨ t = 36 ∨ t = 3 := by simpa using Array.mem_of_getElem? ht
  rcases h9 with rfl | rfl | rfl | rfl | rfl
  · exact (show Tryd.prog.wantsStandIn 24 = false by kernel_rfl)
  · exact (show Tryd.prog.wantsStandIn 27 = false by kernel_rfl)
  · exact (show Tryd.prog.wantsStandIn 4 = false by kernel_rfl)
  · exact (show Tryd.prog.wantsStandIn 36 = false by kernel_rfl)
  · exact (show Tryd.prog.wantsStandIn 3 = false by kernel_rfl)
theorem exportTells_carded (walk : ∀ (c0 : Cfg) (ia1 : Option Addr) (ic1 : Nat) (oa1 : Option Addr) (oc1 : Nat) (pe1 : Pcf) (b2 : Bool) (pa3 : Option Addr) (pc3 : Nat) (ca3 : Option Addr) (cc3 : Nat) (ra3 : Option Addr) (rc3 : Nat) (rt3 : Rt) (z4 : Int) (W : World), Said W → c0.next < 4294967296 → RulesIn W oa1 pe1.out → True → rt3.A < 4294967296 → BigR rt3 → AtRd W pa3 ca3 ra3 rt3.att → rt3.att.path.length ≤ pc3 → (Lit.int IntKind.i64 z4).wf = true → Calls Tryd.prog 3 #[.agg (cfgC c0), .agg (pcfC ia1 ic1 oa1 oc1 pe1), .bool b2, rtV pa3 pc3 ca3 cc3 ra3 rc3 rt3, .int .i64 z4] W fun e W' => e = .returned (.bool true) ∧ Below W.heap.size W W') : Rows.ExportTellsCardSaid :=
  Claim7.holds_tied_plain_at .later [] _ _ _ _ (exportTells_over walk) (fun _ h => by cases h) (by kernel_rfl) (fun _ h => by cases h) exportTells_row_tie rfl ⟨rfl, rfl⟩ (by kernel_rfl) rfl exportTells_plain (by kernel_rfl)
end Go.Proofs.YtclihbfjendllaaDoor
