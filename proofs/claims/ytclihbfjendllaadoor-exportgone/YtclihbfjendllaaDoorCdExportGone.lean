/- ExportGone's card from its walk. -/
import Derived.Test.YtclihbfjendllaaDoorAtFr
import Derived.Test.YtclihbfjendllaaDoorAtLd
namespace Go.Proofs.YtclihbfjendllaaDoor
open Go.ChangeShapes Go.WideShapes Go.ChangeAt Go.RowKit
set_option maxRecDepth 100000
set_option linter.unusedVariables false

set_option maxRecDepth 100000 in
theorem exportGone_met (os : Os) : laidMet Tryd.prog Rows.exportGoneRow.laid ((laidW os).forCall (fun _ _ => 0) ⟨#[], #[.int .u16 0], []⟩).memory :=
  laidMet_of_run' 8 (by kernel_rfl) (by kernel_rfl)
set_option maxRecDepth 100000 in
theorem exportGone_reads (os : Os) {H : Type} (enc : TypeId × Value → H) : DataW.whole enc Tryd.prog ((laidW os).forCall (fun _ _ => 0) ⟨#[], #[.int .u16 0], []⟩).memory Tryd.f6.params.toList Rows.exportGoneSpec.vars false (#[.int .u16 0] : Array Value).toList 8 = some ([.lit (.int .u16 0)], [], []) := by kernel_rfl
set_option maxRecDepth 100000 in
theorem exportGone_frame (walk : ∀ (z0 : Int) (W : World), Said W → (Lit.int IntKind.u16 z0).wf = true → Calls Tryd.prog 6 #[.int .u16 z0] W fun e W' => e = .returned (.bool true) ∧ Below W.heap.size W W') (os : Os) (started : os.Started) (H : Type) (enc : TypeId × Value → H) (F : Stop.Interp) :
    ReturnsInHanded {} Tryd.checked os 6 .any ((OpenSpec.ofChange Rows.exportGoneSpec).preRow enc Tryd.prog Tryd.f6 Rows.exportGoneRow.domain false Rows.exportGoneRow.laid) (((OpenSpec.ofChange Rows.exportGoneSpec).at F).post enc Tryd.prog Tryd.f6 false true false false) := by
  refine returnsInHanded_of_row (C := Tryd.checked) (s := OpenSpec.ofChange Rows.exportGoneSpec) ownKnob_no started (by kernel_rfl) Tryd.func6
    (witness_row_at (enc := enc) (C := Tryd.checked) false (laidW os) #[.int .u16 0] rfl (by kernel_rfl) (by kernel_rfl) (by kernel_rfl)
      (OpenSpec.preRow_of_cond 8 (exportGone_reads os enc) (by kernel_rfl) (fun k hk => by cases hk) (by kernel_rfl) (exportGone_met os))) ?_
  intro W base args ds gs before hval0 hW hcnd _ hsz0 hL _ _
  have hval : ∀ (j : Nat) t v, Tryd.f6.params[j]? = some t → args[j]? = some v → Value.okWide Tryd.prog W .any base t v := hval0
  have hsz : (DataW.weightsEach Tryd.prog (Tryd.f6.params.toList ++ Rows.exportGoneSpec.plain.varTypes Tryd.prog) (ds ++ gs)).all (· ≤ reachBytes) = true := hsz0
  have hW' := hW
  obtain ⟨p, q, hA0, hV, rfl, hfz, hnd⟩ := hW
  have hA : DataW.TrodAll enc Tryd.prog W 0 (fun _ => true) true Tryd.f6.params.toList args.toList ds p := hA0
  rw [Tryd.params6] at hA hval hsz
  obtain ⟨v0, vs0, d0, ds0, p0, q0, hargs, rfl, rfl, h0, r0⟩ := trodAll_cons hA
  obtain ⟨rfl, rfl, rfl⟩ := trodAll_nil r0
  obtain rfl : args = #[v0] := by cases args; simp_all
  obtain ⟨rfl, rfl⟩ := trodVars_none hV
  obtain ⟨z0, rfl, rfl, rfl, w0⟩ := open_int Tryd.underlying62 (hval 0 62 v0 rfl rfl) h0
  clear hA0 hval0 hsz hsz0
  refine (walk z0 W (said_of hL) w0).mono fun e W' ⟨he, bel⟩ => ?_
  subst he
  exact ⟨_, rfl, _, _, _, [], _, [], hW', trodAll_mk1 (shut_bool Tryd.underlying4 _), (trodAll_cons_mk (shut_int Tryd.underlying62 w0) trodAll_mk0), rfl, bel.frame _, fun h => by cases h⟩
theorem exportGone_over (walk : ∀ (z0 : Int) (W : World), Said W → (Lit.int IntKind.u16 z0).wf = true → Calls Tryd.prog 6 #[.int .u16 z0] W fun e W' => e = .returned (.bool true) ∧ Below W.heap.size W W') : Rows.exportGoneRow.holds Tryd.pinned (OpenSpec.ofChange Rows.exportGoneSpec) :=
  OpenClaim.holds_of_cond 6 Tryd.f6 rfl rfl rfl rfl rfl rfl rfl ⟨rfl, rfl, rfl, rfl, rfl⟩ rfl rfl rfl rfl rfl (by kernel_rfl) Tryd.func6 (by kernel_rfl)
    (of_decide_eq_true (by kernel_rfl)) (by unfold Func.isWrapper; first | (rw [if_pos (by decide +kernel)]; kernel_rfl) | (rw [if_neg (by decide +kernel)]; exact ⟨rfl, rfl⟩))
    (fun os started H enc _ F => by rw [OpenClaim.pre_eq_preRow]; exact exportGone_frame walk os started H enc F)
theorem exportGone_plain (f : FuncId) (fn : Func) (hf : Tryd.pinned.checked.prog.funcNamed "interregnum/interregnumlaw16.ExportGone" = some f) (hfn : Tryd.pinned.checked.prog.funcs[f]? = some fn) :
    false = Tryd.pinned.checked.prog.looks [] ∧ ∀ (j : Nat) t, fn.params[j]? = some t → Tryd.pinned.checked.prog.wantsStandIn t = false := by
  obtain rfl : f = 6 := Option.some.inj ((show Tryd.prog.funcNamed "interregnum/interregnumlaw16.ExportGone" = some 6 by kernel_rfl).symm.trans hf) |>.symm
  obtain rfl : fn = Tryd.f6 := (Option.some.inj (Tryd.func6.symm.trans hfn)).symm
  refine ⟨by kernel_rfl, fun j t ht => ?_⟩
  rw [Tryd.params6] at ht
  obtain rfl : t = 62 := by simpa using Array.mem_of_getElem? ht
  exact (show Tryd.prog.wantsStandIn 62 = false by kernel_rfl)
theorem exportGone_carded (walk : ∀ (z0 : Int) (W : World), Said W → (Lit.int IntKind.u16 z0).wf = true → Calls Tryd.prog 6 #[.int .u16 z0] W fun e W' => e = .returned (.bool true) ∧ Below W.heap.size W W') : Rows.ExportGoneCardSaid :=
  Claim7.holds_tied_plain_at .later [] _ _ _ _ (exportGone_over walk) (fun _ h => by cases h) (by kernel_rfl) (fun _ h => by cases h) exportGone_row_tie rfl ⟨rfl, rfl⟩ (by kernel_rfl) rfl exportGone_plain (by kernel_rfl)
end Go.Proofs.YtclihbfjendllaaDoor
