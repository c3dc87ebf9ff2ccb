/- AttrSame's card from its walk. -/
import Derived.Test.YtcbdegggilnphaaDoorAtFr
import Derived.Test.YtcbdegggilnphaaDoorAtLd
namespace Go.Proofs.YtcbdegggilnphaaDoor
open Go.ChangeShapes Go.WideShapes Go.ChangeAt Go.RowKit
set_option linter.unusedVariables false

set_option maxRecDepth 100000 in
theorem attrSame_met (os : Os) : laidMet Tryd.prog Rows.attrSameRow.laid ((laidW os).forCall (fun _ _ => 0) ⟨#[], #[.agg #[.int .i64 0, .slice none 0 0, .int .u32 0, .int .i64 0, .int .i64 0, .slice none 0 0, .slice none 0 0], .agg #[.int .i64 0, .slice none 0 0, .int .u32 0, .int .i64 0, .int .i64 0, .slice none 0 0, .slice none 0 0]], []⟩).memory :=
  laidMet_of_run' 8 (by kernel_rfl) (by kernel_rfl)
set_option maxRecDepth 100000 in
theorem attrSame_reads (os : Os) {H : Type} (enc : TypeId × Value → H) : DataW.whole enc Tryd.prog ((laidW os).forCall (fun _ _ => 0) ⟨#[], #[.agg #[.int .i64 0, .slice none 0 0, .int .u32 0, .int .i64 0, .int .i64 0, .slice none 0 0, .slice none 0 0], .agg #[.int .i64 0, .slice none 0 0, .int .u32 0, .int .i64 0, .int .i64 0, .slice none 0 0, .slice none 0 0]], []⟩).memory Tryd.f5.params.toList Rows.attrSameSpec.vars false (#[.agg #[.int .i64 0, .slice none 0 0, .int .u32 0, .int .i64 0, .int .i64 0, .slice none 0 0, .slice none 0 0], .agg #[.int .i64 0, .slice none 0 0, .int .u32 0, .int .i64 0, .int .i64 0, .slice none 0 0, .slice none 0 0]] : Array Value).toList 8 = some ([.agg [.lit (.int .i64 0), .nil, .lit (.int .u32 0), .lit (.int .i64 0), .lit (.int .i64 0), .nil, .nil], .agg [.lit (.int .i64 0), .nil, .lit (.int .u32 0), .lit (.int .i64 0), .lit (.int .i64 0), .nil, .nil]], [], []) := by kernel_rfl
set_option maxRecDepth 100000 in
theorem attrSame_frame (walk : ∀ (pa0 : Option Addr) (pc0 : Nat) (ca0 : Option Addr) (cc0 : Nat) (ra0 : Option Addr) (rc0 : Nat) (a0 : At) (pa1 : Option Addr) (pc1 : Nat) (ca1 : Option Addr) (cc1 : Nat) (ra1 : Option Addr) (rc1 : Nat) (a1 : At) (W : World), Said W → BigA a0 → AtRd W pa0 ca0 ra0 a0 → BigA a1 → AtRd W pa1 ca1 ra1 a1 → Calls Tryd.prog 5 #[atV pa0 pc0 ca0 cc0 ra0 rc0 a0, atV pa1 pc1 ca1 cc1 ra1 rc1 a1] W fun e W' => e = .returned (.bool true) ∧ Below W.heap.size W W') (os : Os) (started : os.Started) (H : Type) (enc : TypeId × Value → H) (F : Stop.Interp) :
    ReturnsInHanded {} Tryd.checked os 5 .any ((OpenSpec.ofChange Rows.attrSameSpec).preRow enc Tryd.prog Tryd.f5 Rows.attrSameRow.domain false Rows.attrSameRow.laid) (((OpenSpec.ofChange Rows.attrSameSpec).at F).post enc Tryd.prog Tryd.f5 false true false false) := by
  refine returnsInHanded_of_row (C := Tryd.checked) (s := OpenSpec.ofChange Rows.attrSameSpec) ownKnob_no started (by kernel_rfl) Tryd.func5
    (witness_row_at (enc := enc) (C := Tryd.checked) false (laidW os) #[.agg #[.int .i64 0, .slice none 0 0, .int .u32 0, .int .i64 0, .int .i64 0, .slice none 0 0, .slice none 0 0], .agg #[.int .i64 0, .slice none 0 0, .int .u32 0, .int .i64 0, .int .i64 0, .slice none 0 0, .slice none 0 0]] rfl (by kernel_rfl) (by kernel_rfl) (by kernel_rfl)
      (OpenSpec.preRow_of_cond 8 (attrSame_reads os enc) (by kernel_rfl) (fun k hk => by cases hk) (by kernel_rfl) (attrSame_met os))) ?_
  intro W base args ds gs before hval0 hW hcnd _ hsz0 hL _ _
  have hval : ∀ (j : Nat) t v, Tryd.f5.params[j]? = some t → args[j]? = some v → Value.okWide Tryd.prog W .any base t v := hval0
  have hsz : (DataW.weightsEach Tryd.prog (Tryd.f5.params.toList ++ Rows.attrSameSpec.plain.varTypes Tryd.prog) (ds ++ gs)).all (· ≤ reachBytes) = true := hsz0
  have hW' := hW
  obtain ⟨p, q, hA0, hV, rfl, hfz, hnd⟩ := hW
  have hA : DataW.TrodAll enc Tryd.prog W 0 (fun _ => true) true Tryd.f5.params.toList args.toList ds p := hA0
  rw [Tryd.params5] at hA hval hsz
  obtain ⟨v0, vs0, d0, ds0, p0, q0, hargs, rfl, rfl, h0, r0⟩ := trodAll_cons hA
  obtain ⟨v1, vs1, d1, ds1, p1, q1, rfl, rfl, rfl, h1, r1⟩ := trodAll_cons r0
  obtain ⟨rfl, rfl, rfl⟩ := trodAll_nil r1
  obtain rfl : args = #[v0, v1] := by cases args; simp_all
  obtain ⟨rfl, rfl⟩ := trodVars_none hV
  have k0 := h0
  have lt0 : ∀ x ∈ p0, x.block < W.heap.size := by obtain ⟨m, hm⟩ := k0; exact DataW.trod_lt m _ _ _ hm
  obtain ⟨pa0, pc0, ca0, cc0, ra0, rc0, a0, rfl, hr0, hb0⟩ := attr_val (hval 0 27 v0 rfl rfl) h0 fun n hn => of_decide_eq_true (List.all_eq_true.1 hsz n (DataW.weights_mem_each (j := 0) rfl rfl n hn))
  have k1 := h1
  have lt1 : ∀ x ∈ p1, x.block < W.heap.size := by obtain ⟨m, hm⟩ := k1; exact DataW.trod_lt m _ _ _ hm
  obtain ⟨pa1, pc1, ca1, cc1, ra1, rc1, a1, rfl, hr1, hb1⟩ := attr_val (hval 1 27 v1 rfl rfl) h1 fun n hn => of_decide_eq_true (List.all_eq_true.1 hsz n (DataW.weights_mem_each (j := 1) rfl rfl n hn))
  clear hA0 hval0 hsz hsz0
  refine (walk pa0 pc0 ca0 cc0 ra0 rc0 a0 pa1 pc1 ca1 cc1 ra1 rc1 a1 W (said_of hL) hb0 hr0 hb1 hr1).mono fun e W' ⟨he, bel⟩ => ?_
  subst he
  exact ⟨_, rfl, _, _, _, [], _, [], hW', trodAll_mk1 (shut_bool Tryd.underlying4 _), (trodAll_cons_mk (Below.trod laid_all (by kernel_rfl) (of_decide_eq_true (by kernel_rfl)) k0 bel lt0) (trodAll_cons_mk (Below.trod laid_all (by kernel_rfl) (of_decide_eq_true (by kernel_rfl)) k1 bel lt1) trodAll_mk0)), rfl, bel.frame _, fun h => by cases h⟩
theorem attrSame_over (walk : ∀ (pa0 : Option Addr) (pc0 : Nat) (ca0 : Option Addr) (cc0 : Nat) (ra0 : Option Addr) (rc0 : Nat) (a0 : At) (pa1 : Option Addr) (pc1 : Nat) (ca1 : Option Addr) (cc1 : Nat) (ra1 : Option Addr) (rc1 : Nat) (a1 : At) (W : World), Said W → BigA a0 → AtRd W pa0 ca0 ra0 a0 → BigA a1 → AtRd W pa1 ca1 ra1 a1 → Calls Tryd.prog 5 #[atV pa0 pc0 ca0 cc0 ra0 rc0 a0, atV pa1 pc1 ca1 cc1 ra1 rc1 a1] W fun e W' => e = .returned (.bool true) ∧ Below W.heap.size W W') : Rows.attrSameRow.holds Tryd.pinned (OpenSpec.ofChange Rows.attrSameSpec) :=
  OpenClaim.holds_of_cond 5 Tryd.f5 rfl rfl rfl rfl rfl rfl rfl ⟨rfl, rfl, rfl, rfl, rfl⟩ rfl rfl rfl rfl rfl (by kernel_rfl) Tryd.func5 (by kernel_rfl)
    (of_decide_eq_true (by kernel_rfl)) (by unfold Func.isWrapper; first | (rw [if_pos (by decide +kernel)]; kernel_rfl) | (rw [if_neg (by decide +kernel)]; exact ⟨rfl, rfl⟩))
    (fun os started H enc _ F => by rw [OpenClaim.pre_eq_preRow]; exact attrSame_frame walk os started H enc F)
theorem attrSame_plain (f : FuncId) (fn : Func) (hf : Tryd.pinned.checked.prog.funcNamed "interregnum/interregnumlaw07.AttrSame" = some f) (hfn : Tryd.pinned.checked.prog.funcs[f]? = some fn) :
    true = Tryd.pinned.checked.prog.looks [] ∧ ∀ (j : Nat) t, fn.params[j]? = some t → Tryd.pinned.checked.prog.wantsStandIn t = false := by
  obtain rfl : f = 5 := Option.some.inj ((show Tryd.prog.funcNamed "interregnum/interregnumlaw07.AttrSame" = some 5 by kernel_rfl).symm.trans hf) |>.symm
  obtain rfl : fn = Tryd.f5 := (Option.some.inj (Tryd.func5.symm.trans hfn)).symm
  refine ⟨by kernel_rfl, fun j t ht => ?_⟩
  rw [Tryd.params5] at ht
  obtain rfl : t = 27 := by simpa using Array.mem_of_getElem? ht
  exact (show Tryd.prog.wantsStandIn 27 = false by kernel_rfl)
theorem attrSame_carded (walk : ∀ (pa0 : Option Addr) (pc0 : Nat) (ca0 : Option Addr) (cc0 : Nat) (ra0 : Option Addr) (rc0 : Nat) (a0 : At) (pa1 : Option Addr) (pc1 : Nat) (ca1 : Option Addr) (cc1 : Nat) (ra1 : Option Addr) (rc1 : Nat) (a1 : At) (W : World), Said W → BigA a0 → AtRd W pa0 ca0 ra0 a0 → BigA a1 → AtRd W pa1 ca1 ra1 a1 → Calls Tryd.prog 5 #[atV pa0 pc0 ca0 cc0 ra0 rc0 a0, atV pa1 pc1 ca1 cc1 ra1 rc1 a1] W fun e W' => e = .returned (.bool true) ∧ Below W.heap.size W W') : Rows.AttrSameCardSaid :=
  Claim7.holds_tied_plain_at .later [] _ _ _ _ (attrSame_over walk) (fun _ h => by cases h) (by kernel_rfl) (fun _ h => by cases h) attrSame_row_tie rfl ⟨rfl, rfl⟩ (by kernel_rfl) rfl attrSame_plain (by kernel_rfl)
end Go.Proofs.YtcbdegggilnphaaDoor
