/- AttrUnknown's card from its walk. -/
import Derived.Test.YtempaadgheondabDoorAtFr
import Derived.Test.YtempaadgheondabDoorAtLd
namespace Go.Proofs.YtempaadgheondabDoor
open Go.ChangeShapes Go.WideShapes Go.ChangeAt Go.RowKit
set_option linter.unusedVariables false

set_option maxRecDepth 100000 in
theorem attrUnknown_met (os : Os) : laidMet Tryd.prog Rows.attrUnknownRow.laid ((laidW os).forCall (fun _ _ => 0) ⟨#[], #[.agg #[.int .i64 0, .slice none 0 0, .int .u32 0, .int .i64 0, .int .i64 0, .slice none 0 0, .slice none 0 0], .int .u8 0, .int .u8 0, .slice none 0 0], []⟩).memory :=
  laidMet_of_run' 8 (by kernel_rfl) (by kernel_rfl)
set_option maxRecDepth 100000 in
theorem attrUnknown_reads (os : Os) {H : Type} (enc : TypeId × Value → H) : DataW.whole enc Tryd.prog ((laidW os).forCall (fun _ _ => 0) ⟨#[], #[.agg #[.int .i64 0, .slice none 0 0, .int .u32 0, .int .i64 0, .int .i64 0, .slice none 0 0, .slice none 0 0], .int .u8 0, .int .u8 0, .slice none 0 0], []⟩).memory Tryd.f3.params.toList Rows.attrUnknownSpec.vars false (#[.agg #[.int .i64 0, .slice none 0 0, .int .u32 0, .int .i64 0, .int .i64 0, .slice none 0 0, .slice none 0 0], .int .u8 0, .int .u8 0, .slice none 0 0] : Array Value).toList 8 = some ([.agg [.lit (.int .i64 0), .nil, .lit (.int .u32 0), .lit (.int .i64 0), .lit (.int .i64 0), .nil, .nil], .lit (.int .u8 0), .lit (.int .u8 0), .nil], [], []) := by kernel_rfl
set_option maxRecDepth 100000 in
theorem attrUnknown_frame (walk : ∀ (pa0 : Option Addr) (pc0 : Nat) (ca0 : Option Addr) (cc0 : Nat) (ra0 : Option Addr) (rc0 : Nat) (a0 : At) (z1 : Int) (z2 : Int) (b3 : Option Addr) (c3 : Nat) (bs3 : List Nat) (W : World), Said W → BigA a0 → AtRd W pa0 ca0 ra0 a0 → (Lit.int IntKind.u8 z1).wf = true → (Lit.int IntKind.u8 z2).wf = true → bs3.length ≤ c3 → BRd W b3 bs3 → Calls Tryd.prog 3 #[atV pa0 pc0 ca0 cc0 ra0 rc0 a0, .int .u8 z1, .int .u8 z2, .slice b3 bs3.length c3] W fun e W' => e = .returned (.bool true) ∧ Below W.heap.size W W') (os : Os) (started : os.Started) (H : Type) (enc : TypeId × Value → H) (F : Stop.Interp) :
    ReturnsInHanded {} Tryd.checked os 3 .any ((OpenSpec.ofChange Rows.attrUnknownSpec).preRow enc Tryd.prog Tryd.f3 Rows.attrUnknownRow.domain false Rows.attrUnknownRow.laid) (((OpenSpec.ofChange Rows.attrUnknownSpec).at F).post enc Tryd.prog Tryd.f3 false true false false) := by
  refine returnsInHanded_of_row (C := Tryd.checked) (s := OpenSpec.ofChange Rows.attrUnknownSpec) ownKnob_no started (by kernel_rfl) Tryd.func3
    (witness_row_at (enc := enc) (C := Tryd.checked) false (laidW os) #[.agg #[.int .i64 0, .slice none 0 0, .int .u32 0, .int .i64 0, .int .i64 0, .slice none 0 0, .slice none 0 0], .int .u8 0, .int .u8 0, .slice none 0 0] rfl (by kernel_rfl) (by kernel_rfl) (by kernel_rfl)
      (OpenSpec.preRow_of_cond 8 (attrUnknown_reads os enc) (by kernel_rfl) (fun k hk => by cases hk) (by kernel_rfl) (attrUnknown_met os))) ?_
  intro W base args ds gs before hval0 hW hcnd _ hsz0 hL _ _
  have hval : ∀ (j : Nat) t v, Tryd.f3.params[j]? = some t → args[j]? = some v → Value.okWide Tryd.prog W .any base t v := hval0
  have hsz : (DataW.weightsEach Tryd.prog (Tryd.f3.params.toList ++ Rows.attrUnknownSpec.plain.varTypes Tryd.prog) (ds ++ gs)).all (· ≤ reachBytes) = true := hsz0
  have hW' := hW
  obtain ⟨p, q, hA0, hV, rfl, hfz, hnd⟩ := hW
  have hA : DataW.TrodAll enc Tryd.prog W 0 (fun _ => true) true Tryd.f3.params.toList args.toList ds p := hA0
  rw [Tryd.params3] at hA hval hsz
  obtain ⟨v0, vs0, d0, ds0, p0, q0, hargs, rfl, rfl, h0, r0⟩ := trodAll_cons hA
  obtain ⟨v1, vs1, d1, ds1, p1, q1, rfl, rfl, rfl, h1, r1⟩ := trodAll_cons r0
  obtain ⟨v2, vs2, d2, ds2, p2, q2, rfl, rfl, rfl, h2, r2⟩ := trodAll_cons r1
  obtain ⟨v3, vs3, d3, ds3, p3, q3, rfl, rfl, rfl, h3, r3⟩ := trodAll_cons r2
  obtain ⟨rfl, rfl, rfl⟩ := trodAll_nil r3
  obtain rfl : args = #[v0, v1, v2, v3] := by cases args; simp_all
  obtain ⟨rfl, rfl⟩ := trodVars_none hV
  have k0 := h0
  have lt0 : ∀ x ∈ p0, x.block < W.heap.size := by obtain ⟨m, hm⟩ := k0; exact DataW.trod_lt m _ _ _ hm
  obtain ⟨pa0, pc0, ca0, cc0, ra0, rc0, a0, rfl, hr0, hb0⟩ := attr_val (hval 0 27 v0 rfl rfl) h0 fun n hn => of_decide_eq_true (List.all_eq_true.1 hsz n (DataW.weights_mem_each (j := 0) rfl rfl n hn))
  obtain ⟨z1, rfl, rfl, rfl, w1⟩ := open_int Tryd.underlying5 (hval 1 5 v1 rfl rfl) h1
  obtain ⟨z2, rfl, rfl, rfl, w2⟩ := open_int Tryd.underlying5 (hval 2 5 v2 rfl rfl) h2
  have k3 := h3
  have lt3 : ∀ x ∈ p3, x.block < W.heap.size := by obtain ⟨m, hm⟩ := k3; exact DataW.trod_lt m _ _ _ hm
  obtain ⟨b3, len3, c3, rfl⟩ := okWide_slice Tryd.underlying28 (hval 3 28 v3 rfl rfl)
  obtain ⟨bs3, rfl, hc3, hd3⟩ : ∃ bs : List Nat, bs.length = len3 ∧ bs.length ≤ c3 ∧ BRd W b3 bs := by
    obtain ⟨fuel, hf⟩ := h3
    obtain ⟨a, c, zs, e, h1, h2, h3, _, _⟩ := bytes_of hf
    simp only [Value.slice.injEq] at e
    obtain ⟨rfl, rfl, rfl⟩ := e
    exact ⟨zs, rfl, h1, h2, h3⟩
  clear hA0 hval0 hsz hsz0
  refine (walk pa0 pc0 ca0 cc0 ra0 rc0 a0 z1 z2 b3 c3 bs3 W (said_of hL) hb0 hr0 w1 w2 hc3 hd3).mono fun e W' ⟨he, bel⟩ => ?_
  subst he
  exact ⟨_, rfl, _, _, _, [], _, [], hW', trodAll_mk1 (shut_bool Tryd.underlying4 _), (trodAll_cons_mk (Below.trod laid_all (by kernel_rfl) (of_decide_eq_true (by kernel_rfl)) k0 bel lt0) (trodAll_cons_mk (shut_int Tryd.underlying5 w1) (trodAll_cons_mk (shut_int Tryd.underlying5 w2) (trodAll_cons_mk (Below.trod laid_all (by kernel_rfl) (of_decide_eq_true (by kernel_rfl)) k3 bel lt3) trodAll_mk0)))), rfl, bel.frame _, fun h => by cases h⟩
theorem attrUnknown_over (walk : ∀ (pa0 : Option Addr) (pc0 : Nat) (ca0 : Option Addr) (cc0 : Nat) (ra0 : Option Addr) (rc0 : Nat) (a0 : At) (z1 : Int) (z2 : Int) (b3 : Option Addr) (c3 : Nat) (bs3 : List Nat) (W : World), Said W → BigA a0 → AtRd W pa0 ca0 ra0 a0 → (Lit.int IntKind.u8 z1).wf = true → (Lit.int IntKind.u8 z2).wf = true → bs3.length ≤ c3 → BRd W b3 bs3 → Calls Tryd.prog 3 #[atV pa0 pc0 ca0 cc0 ra0 rc0 a0, .int .u8 z1, .int .u8 z2, .slice b3 bs3.length c3] W fun e W' => e = .returned (.bool true) ∧ Below W.heap.size W W') : Rows.attrUnknownRow.holds Tryd.pinned (OpenSpec.ofChange Rows.attrUnknownSpec) :=
  OpenClaim.holds_of_cond 3 Tryd.f3 rfl rfl rfl rfl rfl rfl rfl ⟨rfl, rfl, rfl, rfl, rfl⟩ rfl rfl rfl rfl rfl (by kernel_rfl) Tryd.func3 (by kernel_rfl)
    (of_decide_eq_true (by kernel_rfl)) (by unfold Func.isWrapper; first | (rw [if_pos (by decide +kernel)]; kernel_rfl) | (rw [if_neg (by decide +kernel)]; exact ⟨rfl, rfl⟩))
    (fun os started H enc _ F => by rw [OpenClaim.pre_eq_preRow]; exact attrUnknown_frame walk os started H enc F)
theorem attrUnknown_plain (f : FuncId) (fn : Func) (hf : Tryd.pinned.checked.prog.funcNamed "interregnum/interregnumlaw07.AttrUnknown" = some f) (hfn : Tryd.pinned.checked.prog.funcs[f]? = some fn) :
    true = Tryd.pinned.checked.prog.looks [] ∧ ∀ (j : Nat) t, fn.params[j]? = some t → Tryd.pinned.checked.prog.wantsStandIn t = false := by
  obtain rfl : f = 3 := Option.some.inj ((show Tryd.prog.funcNamed "interregnum/interregnumlaw07.AttrUnknown" = some 3 by kernel_rfl).symm.trans hf) |>.symm
  obtain rfl : fn = Tryd.f3 := (Option.some.inj (Tryd.func3.symm.trans hfn)).symm
  refine ⟨by kernel_rfl, fun j t ht => ?_⟩
  rw [Tryd.params3] at ht
  have h9 : t = 27 ∨ t = 5 ∨ t = 28 := by simpa using Array.mem_of_getElem? ht
  rcases h9 with rfl | rfl | rfl
  · exact (show Tryd.prog.wantsStandIn 27 = false by kernel_rfl)
  · exact (show Tryd.prog.wantsStandIn 5 = false by kernel_rfl)
  · exact (show Tryd.prog.wantsStandIn 28 = false by kernel_rfl)
theorem attrUnknown_carded (walk : ∀ (pa0 : Option Addr) (pc0 : Nat) (ca0 : Option Addr) (cc0 : Nat) (ra0 : Option Addr) (rc0 : Nat) (a0 : At) (z1 : Int) (z2 : Int) (b3 : Option Addr) (c3 : Nat) (bs3 : List Nat) (W : World), Said W → BigA a0 → AtRd W pa0 ca0 ra0 a0 → (Lit.int IntKind.u8 z1).wf = true → (Lit.int IntKind.u8 z2).wf = true → bs3.length ≤ c3 → BRd W b3 bs3 → Calls Tryd.prog 3 #[atV pa0 pc0 ca0 cc0 ra0 rc0 a0, .int .u8 z1, .int .u8 z2, .slice b3 bs3.length c3] W fun e W' => e = .returned (.bool true) ∧ Below W.heap.size W W') : Rows.AttrUnknownCardSaid :=
  Claim7.holds_tied_plain_at .later [] _ _ _ _ (attrUnknown_over walk) (fun _ h => by cases h) (by kernel_rfl) (fun _ h => by cases h) attrUnknown_row_tie rfl ⟨rfl, rfl⟩ (by kernel_rfl) rfl attrUnknown_plain (by kernel_rfl)
end Go.Proofs.YtempaadgheondabDoor
