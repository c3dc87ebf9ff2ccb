/- The frames of the laws that take a path: each from its walk. The frame round the walk follows the guide's. -/
import Derived.Test.YtnfokbpnjhhiiaaRows
import Derived.WalkKit
import Derived.ProofKit
import Derived.OpenShut
import Derived.ShutString
import Derived.ChangeOld
import Derived.Below
import Derived.SizedLaws
import Derived.Test.YtnfokbpnjhhiiaaPthOf
namespace Go.Proofs.Ytnfokbpnjhhiiaa
open Go.ChangeShapes Go.WideShapes Go.ChangeAt Go.RowKit
set_option linter.unusedVariables false

theorem ownKnob_none : ownKnob Try.prog.godebug = none := by kernel_rfl
theorem laid_out : laidOutB Try.prog = true := by kernel_rfl
/-- A path of a size that there may be. -/
def sizeP (ss : List (Bool × List Int)) : Prop := ss.length ≤ 1152921504606846976 ∧ ∀ s ∈ ss, s.2.length ≤ 1152921504606846976
set_option maxRecDepth 100000 in
theorem back_frame (walk : ∀ (a : Option Addr) (c : Nat) (ss : List (Bool × List Int)) (W : World), ss.length ≤ c → sizeP ss → PthRd W a ss → Calls Try.prog 3 #[.slice a ss.length c] W fun e W' => e = .returned (.bool true) ∧ Below W.heap.size W W') (os : Os) (started : os.Started) (H : Type) (enc : TypeId × Value → H) :
    ReturnsInHanded {} Try.checked os 3 .any (Rows.pathBackSpec.pre6 enc Try.prog Try.f3 Rows.pathBackRow.domain false) (Rows.pathBackSpec.post enc Try.prog Try.f3 false true false false) := by
  refine returnsInHanded_of_change_sized (C := Try.checked) ownKnob_none started (by kernel_rfl) Try.func3
    (ChangeSpec.witness6 (enc := enc) (C := Try.checked) false ⟨#[], #[.slice none 0 0], []⟩ 8 (by kernel_rfl) (by kernel_rfl) (by kernel_rfl) (by kernel_rfl)) ?_
  intro W base args ds gs before hval0 hW hcnd hsz0 _
  have hval : ∀ (j : Nat) t v, Try.f3.params[j]? = some t → args[j]? = some v → Value.okWide Try.prog W .any base t v := hval0
  have hsz : (DataW.weightsEach Try.prog (Try.f3.params.toList ++ Rows.pathBackSpec.plain.varTypes Try.prog) (ds ++ gs)).all (· ≤ reachBytes) = true := hsz0
  have hW' := hW
  obtain ⟨p, q, hA0, hV, rfl, hfz, hnd⟩ := hW
  have hA : DataW.TrodAll enc Try.prog W 0 (fun _ => true) true Try.f3.params.toList args.toList ds p := hA0
  rw [Try.params3] at hA hval hsz
  obtain ⟨v0, vs0, d0, ds0, p0, q0, hargs, rfl, rfl, h0, r0⟩ := trodAll_cons hA
  obtain ⟨rfl, rfl, rfl⟩ := trodAll_nil r0
  obtain rfl : args = #[v0] := by cases args; simp_all
  obtain ⟨rfl, rfl⟩ := trodVars_none hV
  obtain ⟨a0, len0, cap0, rfl⟩ := okWide_slice Try.underlying22 (hval 0 22 v0 rfl rfl)
  have k0 := h0
  have lt0 : ∀ x ∈ p0, x.block < W.heap.size := by obtain ⟨m, hm⟩ := k0; exact DataW.trod_lt m _ _ _ hm
  obtain ⟨ss, rfl, hlc, w0, hz⟩ : ∃ ss : List (Bool × List Int), ss.length = len0 ∧ len0 ≤ cap0 ∧ PthRd W a0 ss ∧ sizeP ss := by
    obtain ⟨fuel, hf⟩ := h0
    obtain ⟨ss, h1, h2, h3, h4⟩ := path_of hf
    obtain ⟨h5, h6⟩ := h4 reachBytes fun n hn => of_decide_eq_true (List.all_eq_true.1 hsz n (DataW.weights_mem_each (j := 0) rfl rfl n hn))
    unfold reachBytes at h5 h6
    exact ⟨ss, h1, h2, h3, by omega, fun s hs => by have := h6 s hs; omega⟩
  clear hA0 hval0 hsz hsz0
  refine (walk a0 cap0 ss W hlc hz w0).mono fun e W' ⟨he, bel⟩ => ?_
  subst he
  exact ⟨_, rfl, _, _, _, [], _, [], hW', trodAll_mk1 (shut_bool Try.underlying4 _), (trodAll_cons_mk (Below.trod laid_out (by kernel_rfl) (of_decide_eq_true (by kernel_rfl)) k0 bel lt0) trodAll_mk0), rfl, bel.frame _, fun h => by cases h⟩
theorem back_over (walk : ∀ (a : Option Addr) (c : Nat) (ss : List (Bool × List Int)) (W : World), ss.length ≤ c → sizeP ss → PthRd W a ss → Calls Try.prog 3 #[.slice a ss.length c] W fun e W' => e = .returned (.bool true) ∧ Below W.heap.size W W') : Rows.pathBackRow.holds Try.pinned (OpenSpec.ofChange Rows.pathBackSpec) :=
  OpenClaim.holds_of_wide 3 Try.f3 rfl rfl rfl rfl rfl rfl rfl ⟨rfl, rfl, rfl, rfl, rfl⟩ rfl rfl rfl rfl rfl (by kernel_rfl) Try.func3 (by kernel_rfl)
    (of_decide_eq_true (by kernel_rfl)) (by unfold Func.isWrapper; first | (rw [if_pos (by decide +kernel)]; kernel_rfl) | (rw [if_neg (by decide +kernel)]; exact ⟨rfl, rfl⟩))
    (fun os started H enc _ => back_frame walk os started H enc)
set_option maxRecDepth 100000 in
theorem tells_frame (walk : ∀ (a : Option Addr) (c : Nat) (ss : List (Bool × List Int)) (z : Int) (W : World), ss.length ≤ c → sizeP ss → PthRd W a ss → (Lit.int IntKind.i64 z).wf = true → Calls Try.prog 5 #[.slice a ss.length c, .int .i64 z] W fun e W' => e = .returned (.bool true) ∧ Below W.heap.size W W') (os : Os) (started : os.Started) (H : Type) (enc : TypeId × Value → H) :
    ReturnsInHanded {} Try.checked os 5 .any (Rows.pathTellsSpec.pre6 enc Try.prog Try.f5 Rows.pathTellsRow.domain false) (Rows.pathTellsSpec.post enc Try.prog Try.f5 false true false false) := by
  refine returnsInHanded_of_change_sized (C := Try.checked) ownKnob_none started (by kernel_rfl) Try.func5
    (ChangeSpec.witness6 (enc := enc) (C := Try.checked) false ⟨#[], #[.slice none 0 0, .int .i64 0], []⟩ 8 (by kernel_rfl) (by kernel_rfl) (by kernel_rfl) (by kernel_rfl)) ?_
  intro W base args ds gs before hval0 hW hcnd hsz0 _
  have hval : ∀ (j : Nat) t v, Try.f5.params[j]? = some t → args[j]? = some v → Value.okWide Try.prog W .any base t v := hval0
  have hsz : (DataW.weightsEach Try.prog (Try.f5.params.toList ++ Rows.pathTellsSpec.plain.varTypes Try.prog) (ds ++ gs)).all (· ≤ reachBytes) = true := hsz0
  have hW' := hW
  obtain ⟨p, q, hA0, hV, rfl, hfz, hnd⟩ := hW
  have hA : DataW.TrodAll enc Try.prog W 0 (fun _ => true) true Try.f5.params.toList args.toList ds p := hA0
  rw [Try.params5] at hA hval hsz
  obtain ⟨v0, vs0, d0, ds0, p0, q0, hargs, rfl, rfl, h0, r0⟩ := trodAll_cons hA
  obtain ⟨v1, vs1, d1, ds1, p1, q1, rfl, rfl, rfl, h1, r1⟩ := trodAll_cons r0
  obtain ⟨rfl, rfl, rfl⟩ := trodAll_nil r1
  obtain rfl : args = #[v0, v1] := by cases args; simp_all
  obtain ⟨rfl, rfl⟩ := trodVars_none hV
  obtain ⟨a0, len0, cap0, rfl⟩ := okWide_slice Try.underlying22 (hval 0 22 v0 rfl rfl)
  obtain ⟨a1, rfl, rfl, rfl, w1⟩ := open_int Try.underlying3 (hval 1 3 v1 rfl rfl) h1
  have k0 := h0
  have lt0 : ∀ x ∈ p0, x.block < W.heap.size := by obtain ⟨m, hm⟩ := k0; exact DataW.trod_lt m _ _ _ hm
  obtain ⟨ss, rfl, hlc, w0, hz⟩ : ∃ ss : List (Bool × List Int), ss.length = len0 ∧ len0 ≤ cap0 ∧ PthRd W a0 ss ∧ sizeP ss := by
    obtain ⟨fuel, hf⟩ := h0
    obtain ⟨ss, h1, h2, h3, h4⟩ := path_of hf
    obtain ⟨h5, h6⟩ := h4 reachBytes fun n hn => of_decide_eq_true (List.all_eq_true.1 hsz n (DataW.weights_mem_each (j := 0) rfl rfl n hn))
    unfold reachBytes at h5 h6
    exact ⟨ss, h1, h2, h3, by omega, fun s hs => by have := h6 s hs; omega⟩
  clear hA0 hval0 hsz hsz0
  refine (walk a0 cap0 ss a1 W hlc hz w0 w1).mono fun e W' ⟨he, bel⟩ => ?_
  subst he
  exact ⟨_, rfl, _, _, _, [], _, [], hW', trodAll_mk1 (shut_bool Try.underlying4 _), (trodAll_cons_mk (Below.trod laid_out (by kernel_rfl) (of_decide_eq_true (by kernel_rfl)) k0 bel lt0) (trodAll_cons_mk (shut_int Try.underlying3 w1) trodAll_mk0)), rfl, bel.frame _, fun h => by cases h⟩
theorem tells_over (walk : ∀ (a : Option Addr) (c : Nat) (ss : List (Bool × List Int)) (z : Int) (W : World), ss.length ≤ c → sizeP ss → PthRd W a ss → (Lit.int IntKind.i64 z).wf = true → Calls Try.prog 5 #[.slice a ss.length c, .int .i64 z] W fun e W' => e = .returned (.bool true) ∧ Below W.heap.size W W') : Rows.pathTellsRow.holds Try.pinned (OpenSpec.ofChange Rows.pathTellsSpec) :=
  OpenClaim.holds_of_wide 5 Try.f5 rfl rfl rfl rfl rfl rfl rfl ⟨rfl, rfl, rfl, rfl, rfl⟩ rfl rfl rfl rfl rfl (by kernel_rfl) Try.func5 (by kernel_rfl)
    (of_decide_eq_true (by kernel_rfl)) (by unfold Func.isWrapper; first | (rw [if_pos (by decide +kernel)]; kernel_rfl) | (rw [if_neg (by decide +kernel)]; exact ⟨rfl, rfl⟩))
    (fun os started H enc _ => tells_frame walk os started H enc)
set_option maxRecDepth 100000 in
theorem preps_frame (walk : ∀ (a : Option Addr) (c : Nat) (ss : List (Bool × List Int)) (z : Int) (W : World), ss.length ≤ c → sizeP ss → PthRd W a ss → (Lit.int IntKind.i64 z).wf = true → Calls Try.prog 6 #[.slice a ss.length c, .int .i64 z] W fun e W' => e = .returned (.bool true) ∧ Below W.heap.size W W') (os : Os) (started : os.Started) (H : Type) (enc : TypeId × Value → H) :
    ReturnsInHanded {} Try.checked os 6 .any (Rows.pathPrependsSpec.pre6 enc Try.prog Try.f6 Rows.pathPrependsRow.domain false) (Rows.pathPrependsSpec.post enc Try.prog Try.f6 false true false false) := by
  refine returnsInHanded_of_change_sized (C := Try.checked) ownKnob_none started (by kernel_rfl) Try.func6
    (ChangeSpec.witness6 (enc := enc) (C := Try.checked) false ⟨#[], #[.slice none 0 0, .int .i64 0], []⟩ 8 (by kernel_rfl) (by kernel_rfl) (by kernel_rfl) (by kernel_rfl)) ?_
  intro W base args ds gs before hval0 hW hcnd hsz0 _
  have hval : ∀ (j : Nat) t v, Try.f6.params[j]? = some t → args[j]? = some v → Value.okWide Try.prog W .any base t v := hval0
  have hsz : (DataW.weightsEach Try.prog (Try.f6.params.toList ++ Rows.pathPrependsSpec.plain.varTypes Try.prog) (ds ++ gs)).all (· ≤ reachBytes) = true := hsz0
  have hW' := hW
  obtain ⟨p, q, hA0, hV, rfl, hfz, hnd⟩ := hW
  have hA : DataW.TrodAll enc Try.prog W 0 (fun _ => true) true Try.f6.params.toList args.toList ds p := hA0
  rw [Try.params6] at hA hval hsz
  obtain ⟨v0, vs0, d0, ds0, p0, q0, hargs, rfl, rfl, h0, r0⟩ := trodAll_cons hA
  obtain ⟨v1, vs1, d1, ds1, p1, q1, rfl, rfl, rfl, h1, r1⟩ := trodAll_cons r0
  obtain ⟨rfl, rfl, rfl⟩ := trodAll_nil r1
  obtain rfl : args = #[v0, v1] := by cases args; simp_all
  obtain ⟨rfl, rfl⟩ := trodVars_none hV
  obtain ⟨a0, len0, cap0, rfl⟩ := okWide_slice Try.underlying22 (hval 0 22 v0 rfl rfl)
  obtain ⟨a1, rfl, rfl, rfl, w1⟩ := open_int Try.underlying3 (hval 1 3 v1 rfl rfl) h1
  have k0 := h0
  have lt0 : ∀ x ∈ p0, x.block < W.heap.size := by obtain ⟨m, hm⟩ := k0; exact DataW.trod_lt m _ _ _ hm
  obtain ⟨ss, rfl, hlc, w0, hz⟩ : ∃ ss : List (Bool × List Int), ss.length = len0 ∧ len0 ≤ cap0 ∧ PthRd W a0 ss ∧ sizeP ss := by
    obtain ⟨fuel, hf⟩ := h0
    obtain ⟨ss, h1, h2, h3, h4⟩ := path_of hf
    obtain ⟨h5, h6⟩ := h4 reachBytes fun n hn => of_decide_eq_true (List.all_eq_true.1 hsz n (DataW.weights_mem_each (j := 0) rfl rfl n hn))
    unfold reachBytes at h5 h6
    exact ⟨ss, h1, h2, h3, by omega, fun s hs => by have := h6 s hs; omega⟩
  clear hA0 hval0 hsz hsz0
  refine (walk a0 cap0 ss a1 W hlc hz w0 w1).mono fun e W' ⟨he, bel⟩ => ?_
  subst he
  exact ⟨_, rfl, _, _, _, [], _, [], hW', trodAll_mk1 (shut_bool Try.underlying4 _), (trodAll_cons_mk (Below.trod laid_out (by kernel_rfl) (of_decide_eq_true (by kernel_rfl)) k0 bel lt0) (trodAll_cons_mk (shut_int Try.underlying3 w1) trodAll_mk0)), rfl, bel.frame _, fun h => by cases h⟩
theorem preps_over (walk : ∀ (a : Option Addr) (c : Nat) (ss : List (Bool × List Int)) (z : Int) (W : World), ss.length ≤ c → sizeP ss → PthRd W a ss → (Lit.int IntKind.i64 z).wf = true → Calls Try.prog 6 #[.slice a ss.length c, .int .i64 z] W fun e W' => e = .returned (.bool true) ∧ Below W.heap.size W W') : Rows.pathPrependsRow.holds Try.pinned (OpenSpec.ofChange Rows.pathPrependsSpec) :=
  OpenClaim.holds_of_wide 6 Try.f6 rfl rfl rfl rfl rfl rfl rfl ⟨rfl, rfl, rfl, rfl, rfl⟩ rfl rfl rfl rfl rfl (by kernel_rfl) Try.func6 (by kernel_rfl)
    (of_decide_eq_true (by kernel_rfl)) (by unfold Func.isWrapper; first | (rw [if_pos (by decide +kernel)]; kernel_rfl) | (rw [if_neg (by decide +kernel)]; exact ⟨rfl, rfl⟩))
    (fun os started H enc _ => preps_frame walk os started H enc)
end Go.Proofs.Ytnfokbpnjhhiiaa
