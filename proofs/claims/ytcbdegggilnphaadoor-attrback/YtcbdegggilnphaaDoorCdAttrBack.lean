/- AttrBack's card from its walk. -/
import Derived.Test.YtcbdegggilnphaaDoorAtFr
import Derived.Test.YtcbdegggilnphaaDoorAtLd
namespace Go.Proofs.YtcbdegggilnphaaDoor
open Go.ChangeShapes Go.WideShapes Go.ChangeAt Go.RowKit
set_option linter.unusedVariables false

set_option maxRecDepth 100000 in
theorem attrBack_met (os : Os) : laidMet Tryd.prog Rows.attrBackRow.laid ((laidW os).forCall (fun _ _ => 0) ⟨#[], #[.agg #[.int .i64 0, .slice none 0 0, .int .u32 0, .int .i64 0, .int .i64 0, .slice none 0 0, .slice none 0 0]], []⟩).memory :=
  laidMet_of_run' 8 (by kernel_rfl) (by kernel_rfl)
set_option maxRecDepth 100000 in
theorem attrBack_reads (os : Os) {H : Type} (enc : TypeId × Value → H) : DataW.whole enc Tryd.prog ((laidW os).forCall (fun _ _ => 0) ⟨#[], #[.agg #[.int .i64 0, .slice none 0 0, .int .u32 0, .int .i64 0, .int .i64 0, .slice none 0 0, .slice none 0 0]], []⟩).memory Tryd.f3.params.toList Rows.attrBackSpec.vars false (#[.agg #[.int .i64 0, .slice none 0 0, .int .u32 0, .int .i64 0, .int .i64 0, .slice none 0 0, .slice none 0 0]] : Array Value).toList 8 = some ([.agg [.lit (.int .i64 0), .nil, .lit (.int .u32 0), .lit (.int .i64 0), .lit (.int .i64 0), .nil, .nil]], [], []) := by kernel_rfl
set_option maxRecDepth 100000 in
theorem attrBack_frame (walk : ∀ (pa0 : Option Addr) (pc0 : Nat) (ca0 : Option Addr) (cc0 : Nat) (ra0 : Option Addr) (rc0 : Nat) (a0 : At) (W : World), Said W → BigA a0 → AtRd W pa0 ca0 ra0 a0 → Calls Tryd.prog 3 #[atV pa0 pc0 ca0 cc0 ra0 rc0 a0] W fun e W' => e = .returned (.bool true) ∧ Below W.heap.size W W') (os : Os) (started : os.Started) (H : Type) (enc : TypeId × Value → H) (F : Stop.Interp) :
    ReturnsInHanded {} Tryd.checked os 3 .any ((OpenSpec.ofChange Rows.attrBackSpec).preRow enc Tryd.prog Tryd.f3 Rows.attrBackRow.domain false Rows.attrBackRow.laid) (((OpenSpec.ofChange Rows.attrBackSpec).at F).post enc Tryd.prog Tryd.f3 false true false false) := by
  refine returnsInHanded_of_row (C := Tryd.checked) (s := OpenSpec.ofChange Rows.attrBackSpec) ownKnob_no started (by kernel_rfl) Tryd.func3
    (witness_row_at (enc := enc) (C := Tryd.checked) false (laidW os) #[.agg #[.int .i64 0, .slice none 0 0, .int .u32 0, .int .i64 0, .int .i64 0, .slice none 0 0, .slice none 0 0]] rfl (by kernel_rfl) (by kernel_rfl) (by kernel_rfl)
      (OpenSpec.preRow_of_cond 8 (attrBack_reads os enc) (by kernel_rfl) (fun k hk => by cases hk) (by kernel_rfl) (attrBack_met os))) ?_
  intro W base args ds gs before hval0 hW hcnd _ hsz0 hL _ _
  have hval : ∀ (j : Nat) t v, Tryd.f3.params[j]? = some t → args[j]? = some v → Value.okWide Tryd.prog W .any base t v := hval0
  have hsz : (DataW.weightsEach Tryd.prog (Tryd.f3.params.toList ++ Rows.attrBackSpec.plain.varTypes Tryd.prog) (ds ++ gs)).all (· ≤ reachBytes) = true := hsz0
  have hW' := hW
  obtain ⟨p, q, hA0, hV, rfl, hfz, hnd⟩ := hW
  have hA : DataW.TrodAll enc Tryd.prog W 0 (fun _ => true) true Tryd.f3.params.toList args.toList ds p := hA0
  rw [Tryd.params3] at hA hval hsz
  obtain ⟨v0, vs0, d0, ds0, p0, q0, hargs, rfl, rfl, h0, r0⟩ := trodAll_cons hA
  obtain ⟨rfl, rfl, rfl⟩ := trodAll_nil r0
  obtain rfl : args = #[v0] := by cases args; simp_all
  obtain ⟨rfl, rfl⟩ := trodVars_none hV
  have k0 := h0
  have lt0 : ∀ x ∈ p0, x.block < W.heap.size := by obtain ⟨m, hm⟩ := k0; exact DataW.trod_lt m _ _ _ hm
  obtain ⟨pa0, pc0, ca0, cc0, ra0, rc0, a0, rfl, hr0, hb0⟩ := attr_val (hval 0 27 v0 rfl rfl) h0 fun n hn => of_decide_eq_true (List.all_eq_true.1 hsz n (DataW.weights_mem_each (j := 0) rfl rfl n hn))
  clear hA0 hval0 hsz hsz0
  refine (walk pa0 pc0 ca0 cc0 ra0 rc0 a0 W (said_of hL) hb0 hr0).mono fun e W' ⟨he, bel⟩ => ?_
  subst he
  exact ⟨_, rfl, _, _, _, [], _, [], hW', trodAll_mk1 (shut_bool Tryd.underlying4 _), (trodAll_cons_mk (Below.trod laid_all (by kernel_rfl) (of_decide_eq_true (by kernel_rfl)) k0 bel lt0) trodAll_mk0), rfl, bel.frame _, fun h => by cases h⟩
theorem attrBack_over (walk : ∀ (pa0 : Option Addr) (pc0 : Nat) (ca0 : Option Addr) (cc0 : Nat) (ra0 : Option Addr) (rc0 : Nat) (a0 : At) (W : World), Said W → BigA a0 → AtRd W pa0 ca0 ra0 a0 → Calls Tryd.prog 3 #[atV pa0 pc0 ca0 cc0 ra0 rc0 a0] W fun e W' => e = .returned (.bool true) ∧ Below W.heap.size W W') : Rows.attrBackRow.holds Tryd.pinned (OpenSpec.ofChange Rows.attrBackSpec) :=
  OpenClaim.holds_of_cond 3 Tryd.f3 rfl rfl rfl rfl rfl rfl rfl ⟨rfl, rfl, rfl, rfl, rfl⟩ rfl rfl rfl rfl rfl (by kernel_rfl) Tryd.func3 (by kernel_rfl)
    (of_decide_eq_true (by kernel_rfl)) (by unfold Func.isWrapper; first | (rw [if_pos (by decide +kernel)]; kernel_rfl) | (rw [if_neg (by decide +kernel)]; exact ⟨rfl, rfl⟩))
    (fun os started H enc _ F => by rw [OpenClaim.pre_eq_preRow]; exact attrBack_frame walk os started H enc F)
theorem attrBack_plain (f : FuncId) (fn : Func) (hf : Tryd.pinned.checked.prog.funcNamed "interregnum/interregnumlaw07.AttrBack" = some f) (hfn : Tryd.pinned.checked.prog.funcs[f]? = some fn) :
    true = Tryd.pinned.checked.prog.looks [] ∧ ∀ (j : Nat) t, fn.params[j]? = some t → Tryd.pinned.checked.prog.wantsStandIn t = false := by
  obtain rfl : f = 3 := Option.some.inj ((show Tryd.prog.funcNamed "interregnum/interregnumlaw07.AttrBack" = some 3 by kernel_rfl).symm.trans hf) |>.symm
  obtain rfl : fn = Tryd.f3 := (Option.some.inj (Tryd.func3.symm.trans hfn)).symm
  refine ⟨by kernel_rfl, fun j t ht => ?_⟩
  rw [Tryd.params3] at ht
  obtain rfl : t = 27 := by simpa using Array.mem_of_getElem? ht
  exact (show Tryd.prog.wantsStandIn 27 = false by kernel_rfl)
theorem attrBack_carded (walk : ∀ (pa0 : Option Addr) (pc0 : Nat) (ca0 : Option Addr) (cc0 : Nat) (ra0 : Option Addr) (rc0 : Nat) (a0 : At) (W : World), Said W → BigA a0 → AtRd W pa0 ca0 ra0 a0 → Calls Tryd.prog 3 #[atV pa0 pc0 ca0 cc0 ra0 rc0 a0] W fun e W' => e = .returned (.bool true) ∧ Below W.heap.size W W') : Rows.AttrBackCardSaid :=
  Claim7.holds_tied_plain_at .later [] _ _ _ _ (attrBack_over walk) (fun _ h => by cases h) (by kernel_rfl) (fun _ h => by cases h) attrBack_row_tie rfl ⟨rfl, rfl⟩ (by kernel_rfl) rfl attrBack_plain (by kernel_rfl)
end Go.Proofs.YtcbdegggilnphaaDoor
