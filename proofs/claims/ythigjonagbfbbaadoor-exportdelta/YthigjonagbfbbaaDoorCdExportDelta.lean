/- ExportDelta's card from its walk. -/
import Derived.Test.YthigjonagbfbbaaDoorAtFr
import Derived.Test.YthigjonagbfbbaaDoorAtLd
import Derived.Test.YthigjonagbfbbaaDoorExDf
namespace Go.Proofs.YthigjonagbfbbaaDoor
open Go.ChangeShapes Go.WideShapes Go.ChangeAt Go.RowKit
set_option maxRecDepth 100000
set_option linter.unusedVariables false

set_option maxRecDepth 100000 in
theorem exportDelta_met (os : Os) : laidMet Tryd.prog Rows.exportDeltaRow.laid ((laidW os).forCall (fun _ _ => 0) ⟨#[], #[.slice none 0 0, .slice none 0 0], []⟩).memory :=
  laidMet_of_run' 8 (by kernel_rfl) (by kernel_rfl)
set_option maxRecDepth 100000 in
theorem exportDelta_reads (os : Os) {H : Type} (enc : TypeId × Value → H) : DataW.whole enc Tryd.prog ((laidW os).forCall (fun _ _ => 0) ⟨#[], #[.slice none 0 0, .slice none 0 0], []⟩).memory Tryd.f5.params.toList Rows.exportDeltaSpec.vars false (#[.slice none 0 0, .slice none 0 0] : Array Value).toList 8 = some ([.nil, .nil], [], []) := by kernel_rfl
set_option maxRecDepth 100000 in
set_option maxHeartbeats 1600000 in
theorem exportDelta_frame (walk : ∀ (sa0 : Option Addr) (sc0 : Nat) (sl0 : List TE) (sa1 : Option Addr) (sc1 : Nat) (sl1 : List TE) (W : World), Said W → (TlsRd W sa0 (sl0.map Prod.fst) ∧ (∀ p ∈ sl0, TlAt W p) ∧ ∀ p ∈ sl0, BigT p.2) → (TlsRd W sa1 (sl1.map Prod.fst) ∧ (∀ p ∈ sl1, TlAt W p) ∧ ∀ p ∈ sl1, BigT p.2) → Calls Tryd.prog 5 #[.slice sa0 sl0.length sc0, .slice sa1 sl1.length sc1] W fun e W' => e = .returned (.bool true) ∧ Below W.heap.size W W') (os : Os) (started : os.Started) (H : Type) (enc : TypeId × Value → H) (F : Stop.Interp) :
    ReturnsInHanded {} Tryd.checked os 5 .any ((OpenSpec.ofChange Rows.exportDeltaSpec).preRow enc Tryd.prog Tryd.f5 Rows.exportDeltaRow.domain false Rows.exportDeltaRow.laid) (((OpenSpec.ofChange Rows.exportDeltaSpec).at F).post enc Tryd.prog Tryd.f5 false true false false) := by
  refine returnsInHanded_of_row (C := Tryd.checked) (s := OpenSpec.ofChange Rows.exportDeltaSpec) ownKnob_no started (by kernel_rfl) Tryd.func5
    (witness_row_at (enc := enc) (C := Tryd.checked) false (laidW os) #[.slice none 0 0, .slice none 0 0] rfl (by kernel_rfl) (by kernel_rfl) (by kernel_rfl)
      (OpenSpec.preRow_of_cond 8 (exportDelta_reads os enc) (by kernel_rfl) (fun k hk => by cases hk) (by kernel_rfl) (exportDelta_met os))) ?_
  intro W base args ds gs before hval0 hW hcnd _ hsz0 hL _ _
  have hval : ∀ (j : Nat) t v, Tryd.f5.params[j]? = some t → args[j]? = some v → Value.okWide Tryd.prog W .any base t v := hval0
  have hsz : (DataW.weightsEach Tryd.prog (Tryd.f5.params.toList ++ Rows.exportDeltaSpec.plain.varTypes Tryd.prog) (ds ++ gs)).all (· ≤ reachBytes) = true := hsz0
  have hW' := hW
  obtain ⟨p, q, hA0, hV, rfl, hfz, hnd⟩ := hW
  have hA : DataW.TrodAll enc Tryd.prog W 0 (fun _ => true) true Tryd.f5.params.toList args.toList ds p := hA0
  rw [Tryd.params5] at hA hval hsz
  obtain ⟨v0, vs0, d0, ds0, p0, q0, hargs, rfl, rfl, h0, r0⟩ := trodAll_cons hA
  obtain ⟨v1, vs1, d1, ds1, p1, q1, rfl, rfl, rfl, h1, r1⟩ := trodAll_cons r0
  obtain ⟨rfl, rfl, rfl⟩ := trodAll_nil r1
  obtain rfl : args = #[v0, v1] := by cases args; simp_all
  obtain ⟨rfl, rfl⟩ := trodVars_none hV
  have k0 := h0
  have lt0 : ∀ x ∈ p0, x.block < W.heap.size := by obtain ⟨m, hm⟩ := k0; exact DataW.trod_lt m _ _ _ hm
  have k1 := h1
  have lt1 : ∀ x ∈ p1, x.block < W.heap.size := by obtain ⟨m, hm⟩ := k1; exact DataW.trod_lt m _ _ _ hm
  obtain ⟨sa0, sc0, sl0, rfl, hr0, ht0, _, _, hg0⟩ := tolds_val (hval 0 48 v0 rfl rfl) h0 fun n hn => of_decide_eq_true (List.all_eq_true.1 hsz n (DataW.weights_mem_each (j := 0) rfl rfl n hn))
  obtain ⟨sa1, sc1, sl1, rfl, hr1, ht1, _, _, hg1⟩ := tolds_val (hval 1 48 v1 rfl rfl) h1 fun n hn => of_decide_eq_true (List.all_eq_true.1 hsz n (DataW.weights_mem_each (j := 1) rfl rfl n hn))
  clear hA0 hval0 hsz hsz0
  refine (walk sa0 sc0 sl0 sa1 sc1 sl1 W (said_of hL) ⟨hr0, ht0, fun p hp => big_told (hg0 p hp)⟩ ⟨hr1, ht1, fun p hp => big_told (hg1 p hp)⟩).mono fun e W' ⟨he, bel⟩ => ?_
  subst he
  exact ⟨_, rfl, _, _, _, [], _, [], hW', trodAll_mk1 (shut_bool Tryd.underlying4 _), (trodAll_cons_mk (Below.trod laid_all (by kernel_rfl) (of_decide_eq_true (by kernel_rfl)) k0 bel lt0) (trodAll_cons_mk (Below.trod laid_all (by kernel_rfl) (of_decide_eq_true (by kernel_rfl)) k1 bel lt1) trodAll_mk0)), rfl, bel.frame _, fun h => by cases h⟩
theorem exportDelta_over (walk : ∀ (sa0 : Option Addr) (sc0 : Nat) (sl0 : List TE) (sa1 : Option Addr) (sc1 : Nat) (sl1 : List TE) (W : World), Said W → (TlsRd W sa0 (sl0.map Prod.fst) ∧ (∀ p ∈ sl0, TlAt W p) ∧ ∀ p ∈ sl0, BigT p.2) → (TlsRd W sa1 (sl1.map Prod.fst) ∧ (∀ p ∈ sl1, TlAt W p) ∧ ∀ p ∈ sl1, BigT p.2) → Calls Tryd.prog 5 #[.slice sa0 sl0.length sc0, .slice sa1 sl1.length sc1] W fun e W' => e = .returned (.bool true) ∧ Below W.heap.size W W') : Rows.exportDeltaRow.holds Tryd.pinned (OpenSpec.ofChange Rows.exportDeltaSpec) :=
  OpenClaim.holds_of_cond 5 Tryd.f5 rfl rfl rfl rfl rfl rfl rfl ⟨rfl, rfl, rfl, rfl, rfl⟩ rfl rfl rfl rfl rfl (by kernel_rfl) Tryd.func5 (by kernel_rfl)
    (of_decide_eq_true (by kernel_rfl)) (by unfold Func.isWrapper; first | (rw [if_pos (by decide +kernel)]; kernel_rfl) | (rw [if_neg (by decide +kernel)]; exact ⟨rfl, rfl⟩))
    (fun os started H enc _ F => by rw [OpenClaim.pre_eq_preRow]; exact exportDelta_frame walk os started H enc F)
theorem exportDelta_plain (f : FuncId) (fn : Func) (hf : Tryd.pinned.checked.prog.funcNamed "interregnum/interregnumlaw16.ExportDelta" = some f) (hfn : Tryd.pinned.checked.prog.funcs[f]? = some fn) :
    false = Tryd.pinned.checked.prog.looks [] ∧ ∀ (j : Nat) t, fn.params[j]? = some t → Tryd.pinned.checked.prog.wantsStandIn t = false := by
  obtain rfl : f = 5 := Option.some.inj ((show Tryd.prog.funcNamed "interregnum/interregnumlaw16.ExportDelta" = some 5 by kernel_rfl).symm.trans hf) |>.symm
  obtain rfl : fn = Tryd.f5 := (Option.some.inj (Tryd.func5.symm.trans hfn)).symm
  refine ⟨by kernel_rfl, fun j t ht => ?_⟩
  rw [Tryd.params5] at ht
  obtain rfl : t = 48 := by simpa using Array.mem_of_getElem? ht
  exact (show Tryd.prog.wantsStandIn 48 = false by kernel_rfl)
theorem exportDelta_carded (walk : ∀ (sa0 : Option Addr) (sc0 : Nat) (sl0 : List TE) (sa1 : Option Addr) (sc1 : Nat) (sl1 : List TE) (W : World), Said W → (TlsRd W sa0 (sl0.map Prod.fst) ∧ (∀ p ∈ sl0, TlAt W p) ∧ ∀ p ∈ sl0, BigT p.2) → (TlsRd W sa1 (sl1.map Prod.fst) ∧ (∀ p ∈ sl1, TlAt W p) ∧ ∀ p ∈ sl1, BigT p.2) → Calls Tryd.prog 5 #[.slice sa0 sl0.length sc0, .slice sa1 sl1.length sc1] W fun e W' => e = .returned (.bool true) ∧ Below W.heap.size W W') : Rows.ExportDeltaCardSaid :=
  Claim7.holds_tied_plain_at .later [] _ _ _ _ (exportDelta_over walk) (fun _ h => by cases h) (by kernel_rfl) (fun _ h => by cases h) exportDelta_row_tie rfl ⟨rfl, rfl⟩ (by kernel_rfl) rfl exportDelta_plain (by kernel_rfl)
end Go.Proofs.YthigjonagbfbbaaDoor
