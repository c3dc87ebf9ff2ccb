/- StreamMany's card from its walk. -/
import Derived.Test.YtflhohfeahcnfaaGreatDoorAtFr
import Derived.Test.YtflhohfeahcnfaaGreatDoorMgLd
namespace Go.Proofs.YtflhohfeahcnfaaGreatDoor
open Go.ChangeShapes Go.WideShapes Go.ChangeAt Go.RowKit
set_option linter.unusedVariables false

set_option maxRecDepth 100000 in
theorem streamMany_met (os : Os) : laidMet Tryz.prog Rows.streamManyRow.laid ((laidWM os).forCall (fun _ _ => 0) ⟨#[], #[.slice none 0 0], []⟩).memory :=
  laidMet_of_run' 8 (by kernel_rfl) (by kernel_rfl)
set_option maxRecDepth 100000 in
theorem streamMany_reads (os : Os) {H : Type} (enc : TypeId × Value → H) : DataW.whole enc Tryz.prog ((laidWM os).forCall (fun _ _ => 0) ⟨#[], #[.slice none 0 0], []⟩).memory Tryz.f6.params.toList Rows.streamManySpec.vars false (#[.slice none 0 0] : Array Value).toList 8 = some ([.nil], [], []) := by kernel_rfl
set_option maxRecDepth 100000 in
theorem streamMany_frame (walk : ∀ (b0 : Option Addr) (c0 : Nat) (bs0 : List Nat) (W : World), SaidM W → bs0.length ≤ c0 → BRd W b0 bs0 → Calls Tryz.prog 6 #[.slice b0 bs0.length c0] W fun e W' => e = .returned (.bool true) ∧ Below W.heap.size W W') (os : Os) (started : os.Started) (H : Type) (enc : TypeId × Value → H) (F : Stop.Interp) :
    ReturnsInHanded {} Tryz.checked os 6 .any ((OpenSpec.ofChange Rows.streamManySpec).preRow enc Tryz.prog Tryz.f6 Rows.streamManyRow.domain false Rows.streamManyRow.laid) (((OpenSpec.ofChange Rows.streamManySpec).at F).post enc Tryz.prog Tryz.f6 false true false false) := by
  refine returnsInHanded_of_row (C := Tryz.checked) (s := OpenSpec.ofChange Rows.streamManySpec) ownKnob_no started (by kernel_rfl) Tryz.func6
    (witness_row_at (enc := enc) (C := Tryz.checked) false (laidWM os) #[.slice none 0 0] rfl (by kernel_rfl) (by kernel_rfl) (by kernel_rfl)
      (OpenSpec.preRow_of_cond 8 (streamMany_reads os enc) (by kernel_rfl) (fun k hk => by cases hk) (by kernel_rfl) (streamMany_met os))) ?_
  intro W base args ds gs before hval0 hW hcnd _ hsz0 hL _ _
  have hval : ∀ (j : Nat) t v, Tryz.f6.params[j]? = some t → args[j]? = some v → Value.okWide Tryz.prog W .any base t v := hval0
  have hW' := hW
  obtain ⟨p, q, hA0, hV, rfl, hfz, hnd⟩ := hW
  have hA : DataW.TrodAll enc Tryz.prog W 0 (fun _ => true) true Tryz.f6.params.toList args.toList ds p := hA0
  rw [Tryz.params6] at hA hval
  obtain ⟨v0, vs0, d0, ds0, p0, q0, hargs, rfl, rfl, h0, r0⟩ := trodAll_cons hA
  obtain ⟨rfl, rfl, rfl⟩ := trodAll_nil r0
  obtain rfl : args = #[v0] := by cases args; simp_all
  obtain ⟨rfl, rfl⟩ := trodVars_none hV
  have k0 := h0
  have lt0 : ∀ x ∈ p0, x.block < W.heap.size := by obtain ⟨m, hm⟩ := k0; exact DataW.trod_lt m _ _ _ hm
  obtain ⟨b0, len0, c0, rfl⟩ := okWide_slice Tryz.underlying22 (hval 0 22 v0 rfl rfl)
  obtain ⟨bs0, rfl, hc0, hd0⟩ : ∃ bs : List Nat, bs.length = len0 ∧ bs.length ≤ c0 ∧ BRd W b0 bs := by
    obtain ⟨fuel, hf⟩ := h0
    obtain ⟨a, c, zs, e, h1, h2, h3, _, _⟩ := bytes_of hf
    simp only [Value.slice.injEq] at e
    obtain ⟨rfl, rfl, rfl⟩ := e
    exact ⟨zs, rfl, h1, h2, h3⟩
  clear hA0 hval0 hsz0
  refine (walk b0 c0 bs0 W (saidM_of hL) hc0 hd0).mono fun e W' ⟨he, bel⟩ => ?_
  subst he
  exact ⟨_, rfl, _, _, _, [], _, [], hW', trodAll_mk1 (shut_bool Tryz.underlying4 _), (trodAll_cons_mk (Below.trod laid_all (by kernel_rfl) (of_decide_eq_true (by kernel_rfl)) k0 bel lt0) trodAll_mk0), rfl, bel.frame _, fun h => by cases h⟩
theorem streamMany_over (walk : ∀ (b0 : Option Addr) (c0 : Nat) (bs0 : List Nat) (W : World), SaidM W → bs0.length ≤ c0 → BRd W b0 bs0 → Calls Tryz.prog 6 #[.slice b0 bs0.length c0] W fun e W' => e = .returned (.bool true) ∧ Below W.heap.size W W') : Rows.streamManyRow.holds Tryz.pinned (OpenSpec.ofChange Rows.streamManySpec) :=
  OpenClaim.holds_of_cond 6 Tryz.f6 rfl rfl rfl rfl rfl rfl rfl ⟨rfl, rfl, rfl, rfl, rfl⟩ rfl rfl rfl rfl rfl (by kernel_rfl) Tryz.func6 (by kernel_rfl)
    (of_decide_eq_true (by kernel_rfl)) (by unfold Func.isWrapper; first | (rw [if_pos (by decide +kernel)]; kernel_rfl) | (rw [if_neg (by decide +kernel)]; exact ⟨rfl, rfl⟩))
    (fun os started H enc _ F => by rw [OpenClaim.pre_eq_preRow]; exact streamMany_frame walk os started H enc F)
theorem streamMany_plain (f : FuncId) (fn : Func) (hf : Tryz.pinned.checked.prog.funcNamed "interregnum/interregnumlaw10.StreamMany" = some f) (hfn : Tryz.pinned.checked.prog.funcs[f]? = some fn) :
    true = Tryz.pinned.checked.prog.looks [] ∧ ∀ (j : Nat) t, fn.params[j]? = some t → Tryz.pinned.checked.prog.wantsStandIn t = false := by
  obtain rfl : f = 6 := Option.some.inj ((show Tryz.prog.funcNamed "interregnum/interregnumlaw10.StreamMany" = some 6 by kernel_rfl).symm.trans hf) |>.symm
  obtain rfl : fn = Tryz.f6 := (Option.some.inj (Tryz.func6.symm.trans hfn)).symm
  refine ⟨by kernel_rfl, fun j t ht => ?_⟩
  rw [Tryz.params6] at ht
  have hm := Array.mem_of_getElem? ht
  simp only [List.mem_toArray, List.mem_cons, List.not_mem_nil, or_false] at hm
  subst hm
  exact (show Tryz.prog.wantsStandIn 22 = false by kernel_rfl)
theorem streamMany_carded (walk : ∀ (b0 : Option Addr) (c0 : Nat) (bs0 : List Nat) (W : World), SaidM W → bs0.length ≤ c0 → BRd W b0 bs0 → Calls Tryz.prog 6 #[.slice b0 bs0.length c0] W fun e W' => e = .returned (.bool true) ∧ Below W.heap.size W W') : Rows.StreamManyCardSaid :=
  Claim7.holds_tied_plain_at .later [] _ _ _ _ (streamMany_over walk) (fun _ h => by cases h) (by kernel_rfl) (fun _ h => by cases h) streamMany_row_tie rfl ⟨rfl, rfl⟩ (by kernel_rfl) rfl streamMany_plain (by kernel_rfl)
end Go.Proofs.YtflhohfeahcnfaaGreatDoor
