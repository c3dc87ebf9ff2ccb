/- MsgLimits's card from its walk. -/
import Derived.Test.YtcbonpofbmogjaaGreatDoorAtFr
import Derived.Test.YtcbonpofbmogjaaGreatDoorMgLd
namespace Go.Proofs.YtcbonpofbmogjaaGreatDoor
open Go.ChangeShapes Go.WideShapes Go.ChangeAt Go.RowKit
set_option linter.unusedVariables false

set_option maxRecDepth 100000 in
theorem msgLimits_met (os : Os) : laidMet Tryz.prog Rows.msgLimitsRow.laid ((laidWM os).forCall (fun _ _ => 0) ⟨#[], #[.int .u16 0], []⟩).memory :=
  laidMet_of_run' 8 (by kernel_rfl) (by kernel_rfl)
set_option maxRecDepth 100000 in
theorem msgLimits_reads (os : Os) {H : Type} (enc : TypeId × Value → H) : DataW.whole enc Tryz.prog ((laidWM os).forCall (fun _ _ => 0) ⟨#[], #[.int .u16 0], []⟩).memory Tryz.f7.params.toList Rows.msgLimitsSpec.vars false (#[.int .u16 0] : Array Value).toList 8 = some ([.lit (.int .u16 0)], [], []) := by kernel_rfl
set_option maxRecDepth 100000 in
theorem msgLimits_frame (walk : ∀ (z0 : Int) (W : World), SaidM W → (Lit.int IntKind.u16 z0).wf = true → Calls Tryz.prog 7 #[.int .u16 z0] W fun e W' => e = .returned (.bool true) ∧ Below W.heap.size W W') (os : Os) (started : os.Started) (H : Type) (enc : TypeId × Value → H) (F : Stop.Interp) :
    ReturnsInHanded {} Tryz.checked os 7 .any ((OpenSpec.ofChange Rows.msgLimitsSpec).preRow enc Tryz.prog Tryz.f7 Rows.msgLimitsRow.domain false Rows.msgLimitsRow.laid) (((OpenSpec.ofChange Rows.msgLimitsSpec).at F).post enc Tryz.prog Tryz.f7 false true false false) := by
  refine returnsInHanded_of_row (C := Tryz.checked) (s := OpenSpec.ofChange Rows.msgLimitsSpec) ownKnob_no started (by kernel_rfl) Tryz.func7
    (witness_row_at (enc := enc) (C := Tryz.checked) false (laidWM os) #[.int .u16 0] rfl (by kernel_rfl) (by kernel_rfl) (by kernel_rfl)
      (OpenSpec.preRow_of_cond 8 (msgLimits_reads os enc) (by kernel_rfl) (fun k hk => by cases hk) (by kernel_rfl) (msgLimits_met os))) ?_
  intro W base args ds gs before hval0 hW hcnd _ hsz0 hL _ _
  have hval : ∀ (j : Nat) t v, Tryz.f7.params[j]? = some t → args[j]? = some v → Value.okWide Tryz.prog W .any base t v := hval0
  have hW' := hW
  obtain ⟨p, q, hA0, hV, rfl, hfz, hnd⟩ := hW
  have hA : DataW.TrodAll enc Tryz.prog W 0 (fun _ => true) true Tryz.f7.params.toList args.toList ds p := hA0
  rw [Tryz.params7] at hA hval
  obtain ⟨v0, vs0, d0, ds0, p0, q0, hargs, rfl, rfl, h0, r0⟩ := trodAll_cons hA
  obtain ⟨rfl, rfl, rfl⟩ := trodAll_nil r0
  obtain rfl : args = #[v0] := by cases args; simp_all
  obtain ⟨rfl, rfl⟩ := trodVars_none hV
  obtain ⟨z0, rfl, rfl, rfl, w0⟩ := open_int Tryz.underlying49 (hval 0 49 v0 rfl rfl) h0
  clear hA0 hval0 hsz0
  refine (walk z0 W (saidM_of hL) w0).mono fun e W' ⟨he, bel⟩ => ?_
  subst he
  exact ⟨_, rfl, _, _, _, [], _, [], hW', trodAll_mk1 (shut_bool Tryz.underlying4 _), (trodAll_cons_mk (shut_int Tryz.underlying49 w0) trodAll_mk0), rfl, bel.frame _, fun h => by cases h⟩
theorem msgLimits_over (walk : ∀ (z0 : Int) (W : World), SaidM W → (Lit.int IntKind.u16 z0).wf = true → Calls Tryz.prog 7 #[.int .u16 z0] W fun e W' => e = .returned (.bool true) ∧ Below W.heap.size W W') : Rows.msgLimitsRow.holds Tryz.pinned (OpenSpec.ofChange Rows.msgLimitsSpec) :=
  OpenClaim.holds_of_cond 7 Tryz.f7 rfl rfl rfl rfl rfl rfl rfl ⟨rfl, rfl, rfl, rfl, rfl⟩ rfl rfl rfl rfl rfl (by kernel_rfl) Tryz.func7 (by kernel_rfl)
    (of_decide_eq_true (by kernel_rfl)) (by unfold Func.isWrapper; first | (rw [if_pos (by decide +kernel)]; kernel_rfl) | (rw [if_neg (by decide +kernel)]; exact ⟨rfl, rfl⟩))
    (fun os started H enc _ F => by rw [OpenClaim.pre_eq_preRow]; exact msgLimits_frame walk os started H enc F)
theorem msgLimits_plain (f : FuncId) (fn : Func) (hf : Tryz.pinned.checked.prog.funcNamed "interregnum/interregnumlaw09.MsgLimits" = some f) (hfn : Tryz.pinned.checked.prog.funcs[f]? = some fn) :
    true = Tryz.pinned.checked.prog.looks [] ∧ ∀ (j : Nat) t, fn.params[j]? = some t → Tryz.pinned.checked.prog.wantsStandIn t = false := by
  obtain rfl : f = 7 := Option.some.inj ((show Tryz.prog.funcNamed "interregnum/interregnumlaw09.MsgLimits" = some 7 by kernel_rfl).symm.trans hf) |>.symm
  obtain rfl : fn = Tryz.f7 := (Option.some.inj (Tryz.func7.symm.trans hfn)).symm
  refine ⟨by kernel_rfl, fun j t ht => ?_⟩
  rw [Tryz.params7] at ht
  have hm := Array.mem_of_getElem? ht
  simp only [List.mem_toArray, List.mem_cons, List.not_mem_nil, or_false] at hm
  subst hm
  exact (show Tryz.prog.wantsStandIn 49 = false by kernel_rfl)
theorem msgLimits_carded (walk : ∀ (z0 : Int) (W : World), SaidM W → (Lit.int IntKind.u16 z0).wf = true → Calls Tryz.prog 7 #[.int .u16 z0] W fun e W' => e = .returned (.bool true) ∧ Below W.heap.size W W') : Rows.MsgLimitsCardSaid :=
  Claim7.holds_tied_plain_at .later [] _ _ _ _ (msgLimits_over walk) (fun _ h => by cases h) (by kernel_rfl) (fun _ h => by cases h) msgLimits_row_tie rfl ⟨rfl, rfl⟩ (by kernel_rfl) rfl msgLimits_plain (by kernel_rfl)
end Go.Proofs.YtcbonpofbmogjaaGreatDoor
