/- MsgOpens's card from its walk. -/
import Derived.Test.YtkmfnafecdfedaaGreatDoorAtFr
import Derived.Test.YtkmfnafecdfedaaGreatDoorOpOf
import Derived.Test.YtkmfnafecdfedaaGreatDoorMgLd
namespace Go.Proofs.YtkmfnafecdfedaaGreatDoor
open Go.ChangeShapes Go.WideShapes Go.ChangeAt Go.RowKit
set_option linter.unusedVariables false

set_option maxRecDepth 100000 in
theorem msgOpens_met (os : Os) : laidMet Tryz.prog Rows.msgOpensRow.laid ((laidWM os).forCall (fun _ _ => 0) ⟨#[], #[.agg #[.int .i64 0, .int .i64 0, .int .u32 0, .bool false, .int .i64 0, .bool false, .bool false, .int .i64 0, .bool false, .bool false, .bool false, .int .i64 0], .int .u8 0, .int .u16 0], []⟩).memory :=
  laidMet_of_run' 8 (by kernel_rfl) (by kernel_rfl)
set_option maxRecDepth 100000 in
theorem msgOpens_reads (os : Os) {H : Type} (enc : TypeId × Value → H) : DataW.whole enc Tryz.prog ((laidWM os).forCall (fun _ _ => 0) ⟨#[], #[.agg #[.int .i64 0, .int .i64 0, .int .u32 0, .bool false, .int .i64 0, .bool false, .bool false, .int .i64 0, .bool false, .bool false, .bool false, .int .i64 0], .int .u8 0, .int .u16 0], []⟩).memory Tryz.f4.params.toList Rows.msgOpensSpec.vars false (#[.agg #[.int .i64 0, .int .i64 0, .int .u32 0, .bool false, .int .i64 0, .bool false, .bool false, .int .i64 0, .bool false, .bool false, .bool false, .int .i64 0], .int .u8 0, .int .u16 0] : Array Value).toList 8 = some ([.agg [.lit (.int .i64 0), .lit (.int .i64 0), .lit (.int .u32 0), .agg [.lit (.bool false), .lit (.int .i64 0), .lit (.bool false), .lit (.bool false), .lit (.int .i64 0), .lit (.bool false), .lit (.bool false), .lit (.bool false), .lit (.int .i64 0)]], .lit (.int .u8 0), .lit (.int .u16 0)], [], []) := by kernel_rfl
set_option maxRecDepth 100000 in
theorem msgOpens_frame (walk : ∀ (a0 h0 : Int) (i0 : Nat) (c0 : Cp) (z1 : Int) (z2 : Int) (W : World), SaidM W → i0 < 4294967296 → (Lit.int IntKind.u8 z1).wf = true → (Lit.int IntKind.u16 z2).wf = true → Calls Tryz.prog 4 #[.agg (openZ a0 h0 i0 c0), .int .u8 z1, .int .u16 z2] W fun e W' => e = .returned (.bool true) ∧ Below W.heap.size W W') (os : Os) (started : os.Started) (H : Type) (enc : TypeId × Value → H) (F : Stop.Interp) :
    ReturnsInHanded {} Tryz.checked os 4 .any ((OpenSpec.ofChange Rows.msgOpensSpec).preRow enc Tryz.prog Tryz.f4 Rows.msgOpensRow.domain false Rows.msgOpensRow.laid) (((OpenSpec.ofChange Rows.msgOpensSpec).at F).post enc Tryz.prog Tryz.f4 false true false false) := by
  refine returnsInHanded_of_row (C := Tryz.checked) (s := OpenSpec.ofChange Rows.msgOpensSpec) ownKnob_no started (by kernel_rfl) Tryz.func4
    (witness_row_at (enc := enc) (C := Tryz.checked) false (laidWM os) #[.agg #[.int .i64 0, .int .i64 0, .int .u32 0, .bool false, .int .i64 0, .bool false, .bool false, .int .i64 0, .bool false, .bool false, .bool false, .int .i64 0], .int .u8 0, .int .u16 0] rfl (by kernel_rfl) (by kernel_rfl) (by kernel_rfl)
      (OpenSpec.preRow_of_cond 8 (msgOpens_reads os enc) (by kernel_rfl) (fun k hk => by cases hk) (by kernel_rfl) (msgOpens_met os))) ?_
  intro W base args ds gs before hval0 hW hcnd _ hsz0 hL _ _
  have hval : ∀ (j : Nat) t v, Tryz.f4.params[j]? = some t → args[j]? = some v → Value.okWide Tryz.prog W .any base t v := hval0
  have hW' := hW
  obtain ⟨p, q, hA0, hV, rfl, hfz, hnd⟩ := hW
  have hA : DataW.TrodAll enc Tryz.prog W 0 (fun _ => true) true Tryz.f4.params.toList args.toList ds p := hA0
  rw [Tryz.params4] at hA hval
  obtain ⟨v0, vs0, d0, ds0, p0, q0, hargs, rfl, rfl, h0, r0⟩ := trodAll_cons hA
  obtain ⟨v1, vs1, d1, ds1, p1, q1, rfl, rfl, rfl, h1, r1⟩ := trodAll_cons r0
  obtain ⟨v2, vs2, d2, ds2, p2, q2, rfl, rfl, rfl, h2, r2⟩ := trodAll_cons r1
  obtain ⟨rfl, rfl, rfl⟩ := trodAll_nil r2
  obtain rfl : args = #[v0, v1, v2] := by cases args; simp_all
  obtain ⟨rfl, rfl⟩ := trodVars_none hV
  have k0 := h0
  have lt0 : ∀ x ∈ p0, x.block < W.heap.size := by obtain ⟨m, hm⟩ := k0; exact DataW.trod_lt m _ _ _ hm
  obtain ⟨a0, h00, i0, c0, rfl, hi0⟩ := open_val (hval 0 28 v0 rfl rfl) h0
  obtain ⟨z1, rfl, rfl, rfl, w1⟩ := open_int Tryz.underlying5 (hval 1 5 v1 rfl rfl) h1
  obtain ⟨z2, rfl, rfl, rfl, w2⟩ := open_int Tryz.underlying46 (hval 2 46 v2 rfl rfl) h2
  clear hA0 hval0 hsz0
  refine (walk a0 h00 i0 c0 z1 z2 W (saidM_of hL) hi0 w1 w2).mono fun e W' ⟨he, bel⟩ => ?_
  subst he
  exact ⟨_, rfl, _, _, _, [], _, [], hW', trodAll_mk1 (shut_bool Tryz.underlying4 _), (trodAll_cons_mk (Below.trod laid_all (by kernel_rfl) (of_decide_eq_true (by kernel_rfl)) k0 bel lt0) (trodAll_cons_mk (shut_int Tryz.underlying5 w1) (trodAll_cons_mk (shut_int Tryz.underlying46 w2) trodAll_mk0))), rfl, bel.frame _, fun h => by cases h⟩
theorem msgOpens_over (walk : ∀ (a0 h0 : Int) (i0 : Nat) (c0 : Cp) (z1 : Int) (z2 : Int) (W : World), SaidM W → i0 < 4294967296 → (Lit.int IntKind.u8 z1).wf = true → (Lit.int IntKind.u16 z2).wf = true → Calls Tryz.prog 4 #[.agg (openZ a0 h0 i0 c0), .int .u8 z1, .int .u16 z2] W fun e W' => e = .returned (.bool true) ∧ Below W.heap.size W W') : Rows.msgOpensRow.holds Tryz.pinned (OpenSpec.ofChange Rows.msgOpensSpec) :=
  OpenClaim.holds_of_cond 4 Tryz.f4 rfl rfl rfl rfl rfl rfl rfl ⟨rfl, rfl, rfl, rfl, rfl⟩ rfl rfl rfl rfl rfl (by kernel_rfl) Tryz.func4 (by kernel_rfl)
    (of_decide_eq_true (by kernel_rfl)) (by unfold Func.isWrapper; first | (rw [if_pos (by decide +kernel)]; kernel_rfl) | (rw [if_neg (by decide +kernel)]; exact ⟨rfl, rfl⟩))
    (fun os started H enc _ F => by rw [OpenClaim.pre_eq_preRow]; exact msgOpens_frame walk os started H enc F)
theorem msgOpens_plain (f : FuncId) (fn : Func) (hf : Tryz.pinned.checked.prog.funcNamed "interregnum/interregnumlaw09.MsgOpens" = some f) (hfn : Tryz.pinned.checked.prog.funcs[f]? = some fn) :
    true = Tryz.pinned.checked.prog.looks [] ∧ ∀ (j : Nat) t, fn.params[j]? = some t → Tryz.pinned.checked.prog.wantsStandIn t = false := by
  obtain rfl : f = 4 := Option.some.inj ((show Tryz.prog.funcNamed "interregnum/interregnumlaw09.MsgOpens" = some 4 by kernel_rfl).symm.trans hf) |>.symm
  obtain rfl : fn = Tryz.f4 := (Option.some.inj (Tryz.func4.symm.trans hfn)).symm
  refine ⟨by kernel_rfl, fun j t ht => ?_⟩
  rw [Tryz.params4] at ht
  have hm := Array.mem_of_getElem? ht
  simp only [List.mem_toArray, List.mem_cons, List.not_mem_nil, or_false] at hm
  rcases hm with rfl | rfl | rfl
  · exact (show Tryz.prog.wantsStandIn 28 = false by kernel_rfl)
  · exact (show Tryz.prog.wantsStandIn 5 = false by kernel_rfl)
  · exact (show Tryz.prog.wantsStandIn 46 = false by kernel_rfl)
theorem msgOpens_carded (walk : ∀ (a0 h0 : Int) (i0 : Nat) (c0 : Cp) (z1 : Int) (z2 : Int) (W : World), SaidM W → i0 < 4294967296 → (Lit.int IntKind.u8 z1).wf = true → (Lit.int IntKind.u16 z2).wf = true → Calls Tryz.prog 4 #[.agg (openZ a0 h0 i0 c0), .int .u8 z1, .int .u16 z2] W fun e W' => e = .returned (.bool true) ∧ Below W.heap.size W W') : Rows.MsgOpensCardSaid :=
  Claim7.holds_tied_plain_at .later [] _ _ _ _ (msgOpens_over walk) (fun _ h => by cases h) (by kernel_rfl) (fun _ h => by cases h) msgOpens_row_tie rfl ⟨rfl, rfl⟩ (by kernel_rfl) rfl msgOpens_plain (by kernel_rfl)
end Go.Proofs.YtkmfnafecdfedaaGreatDoor
