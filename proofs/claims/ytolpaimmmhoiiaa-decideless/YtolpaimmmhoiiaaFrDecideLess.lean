/- The law DecideLess from its walk (written by tools/gen_dcfr.py). -/
import Derived.Test.YtolpaimmmhoiiaaHRf
namespace Go.Proofs.Ytolpaimmmhoiiaa
open Go.ChangeShapes Go.WideShapes Go.ChangeAt Go.RowKit
set_option maxRecDepth 100000
set_option linter.unusedVariables false

set_option maxRecDepth 100000 in
set_option maxHeartbeats 1600000 in
theorem decideLess_frame (walk : ∀ (z0 : Int) (a1 : Option Addr) (c1 : Nat) (l1 : List Inf) (a2 : Option Addr) (c2 : Nat) (l2 : List Rt) (z3 : Int) (W : World), (Lit.int IntKind.i64 z0).wf = true → (∀ x ∈ l1, x.id < 4294967296) → InfsRd W a1 l1 → l2.length ≤ 1152921504606846976 → (∀ x ∈ l2, BigR x) → l2.length ≤ c2 → RtsRd W a2 l2 → (Lit.int IntKind.u8 z3).wf = true → Calls Try.prog 5 #[.int .i64 z0, .slice a1 l1.length c1, .slice a2 l2.length c2, .int .u8 z3] W fun e W' => e = .returned (.bool true) ∧ Below W.heap.size W W') (os : Os) (started : os.Started) (H : Type) (enc : TypeId × Value → H) :
    ReturnsInHanded {} Try.checked os 5 .any (Rows.decideLessSpec.pre6 enc Try.prog Try.f5 Rows.decideLessRow.domain false) (Rows.decideLessSpec.post enc Try.prog Try.f5 false true false false) := by
  refine returnsInHanded_of_change_sized (C := Try.checked) ownKnob_no started (by kernel_rfl) Try.func5
    (ChangeSpec.witness6 (enc := enc) (C := Try.checked) false ⟨#[], #[.int .i64 0, .slice none 0 0, .slice none 0 0, .int .u8 0], []⟩ 8 (by kernel_rfl) (by kernel_rfl) (by kernel_rfl) (by kernel_rfl)) ?_
  intro W base args ds gs before hval0 hW hcnd hsz0 _
  have hval : ∀ (j : Nat) t v, Try.f5.params[j]? = some t → args[j]? = some v → Value.okWide Try.prog W .any base t v := hval0
  have hsz : (DataW.weightsEach Try.prog (Try.f5.params.toList ++ Rows.decideLessSpec.plain.varTypes Try.prog) (ds ++ gs)).all (· ≤ reachBytes) = true := hsz0
  have hW' := hW
  obtain ⟨p, q, hA0, hV, rfl, hfz, hnd⟩ := hW
  have hA : DataW.TrodAll enc Try.prog W 0 (fun _ => true) true Try.f5.params.toList args.toList ds p := hA0
  rw [Try.params5] at hA hval hsz
  obtain ⟨v0, vs0, d0, ds0, p0, q0, hargs, rfl, rfl, h0, r0⟩ := trodAll_cons hA
  obtain ⟨v1, vs1, d1, ds1, p1, q1, rfl, rfl, rfl, h1, r1⟩ := trodAll_cons r0
  obtain ⟨v2, vs2, d2, ds2, p2, q2, rfl, rfl, rfl, h2, r2⟩ := trodAll_cons r1
  obtain ⟨v3, vs3, d3, ds3, p3, q3, rfl, rfl, rfl, h3, r3⟩ := trodAll_cons r2
  obtain ⟨rfl, rfl, rfl⟩ := trodAll_nil r3
  obtain rfl : args = #[v0, v1, v2, v3] := by cases args; simp_all
  obtain ⟨rfl, rfl⟩ := trodVars_none hV
  have k0 := h0
  have lt0 : ∀ x ∈ p0, x.block < W.heap.size := by obtain ⟨m, hm⟩ := k0; exact DataW.trod_lt m _ _ _ hm
  have k1 := h1
  have lt1 : ∀ x ∈ p1, x.block < W.heap.size := by obtain ⟨m, hm⟩ := k1; exact DataW.trod_lt m _ _ _ hm
  have k2 := h2
  have lt2 : ∀ x ∈ p2, x.block < W.heap.size := by obtain ⟨m, hm⟩ := k2; exact DataW.trod_lt m _ _ _ hm
  have k3 := h3
  have lt3 : ∀ x ∈ p3, x.block < W.heap.size := by obtain ⟨m, hm⟩ := k3; exact DataW.trod_lt m _ _ _ hm
  obtain ⟨z0, rfl, rfl, rfl, w0⟩ := open_int Try.underlying3 (hval 0 3 v0 rfl rfl) h0
  obtain ⟨a1, c1, l1, rfl, hr1, hb1⟩ := infos_val (hval 1 22 v1 rfl rfl) h1
  obtain ⟨a2, c2, l2, rfl, hr2, hn2, hb2, hc2⟩ := routes_cap (hval 2 23 v2 rfl rfl) h2 fun n hn => of_decide_eq_true (List.all_eq_true.1 hsz n (DataW.weights_mem_each (j := 2) rfl rfl n hn))
  obtain ⟨z3, rfl, rfl, rfl, w3⟩ := open_int Try.underlying5 (hval 3 5 v3 rfl rfl) h3
  clear hA0 hval0 hsz hsz0
  refine (walk z0 a1 c1 l1 a2 c2 l2 z3 W w0 hb1 hr1 hn2 hb2 hc2 hr2 w3).mono fun e W' ⟨he, bel⟩ => ?_
  subst he
  exact ⟨_, rfl, _, _, _, [], _, [], hW', trodAll_mk1 (shut_bool Try.underlying4 _), (trodAll_cons_mk (Below.trod laid_all (by kernel_rfl) (of_decide_eq_true (by kernel_rfl)) k0 bel lt0) (trodAll_cons_mk (Below.trod laid_all (by kernel_rfl) (of_decide_eq_true (by kernel_rfl)) k1 bel lt1) (trodAll_cons_mk (Below.trod laid_all (by kernel_rfl) (of_decide_eq_true (by kernel_rfl)) k2 bel lt2) (trodAll_cons_mk (Below.trod laid_all (by kernel_rfl) (of_decide_eq_true (by kernel_rfl)) k3 bel lt3) trodAll_mk0)))), rfl, bel.frame _, fun h => by cases h⟩
theorem decideLess_over (walk : ∀ (z0 : Int) (a1 : Option Addr) (c1 : Nat) (l1 : List Inf) (a2 : Option Addr) (c2 : Nat) (l2 : List Rt) (z3 : Int) (W : World), (Lit.int IntKind.i64 z0).wf = true → (∀ x ∈ l1, x.id < 4294967296) → InfsRd W a1 l1 → l2.length ≤ 1152921504606846976 → (∀ x ∈ l2, BigR x) → l2.length ≤ c2 → RtsRd W a2 l2 → (Lit.int IntKind.u8 z3).wf = true → Calls Try.prog 5 #[.int .i64 z0, .slice a1 l1.length c1, .slice a2 l2.length c2, .int .u8 z3] W fun e W' => e = .returned (.bool true) ∧ Below W.heap.size W W') : Rows.decideLessRow.holds Try.pinned (OpenSpec.ofChange Rows.decideLessSpec) :=
  OpenClaim.holds_of_wide 5 Try.f5 rfl rfl rfl rfl rfl rfl rfl ⟨rfl, rfl, rfl, rfl, rfl⟩ rfl rfl rfl rfl rfl (by kernel_rfl) Try.func5 (by kernel_rfl)
    (of_decide_eq_true (by kernel_rfl)) (by unfold Func.isWrapper; first | (rw [if_pos (by decide +kernel)]; kernel_rfl) | (rw [if_neg (by decide +kernel)]; exact ⟨rfl, rfl⟩))
    (fun os started H enc _ => decideLess_frame walk os started H enc)
end Go.Proofs.Ytolpaimmmhoiiaa
