/- Proved: for every prefix, right or not, and every next hop, Static answers the route of peer -1, Origin 0, no Path, that Next, Med and Pref -1, not stale; the document's sample holds; nothing that was there is changed; no condition. The frame round the walk follows the guide's. -/
import Derived.Test.YtnblkgffgbiemaaRtF
import Derived.Test.YtnblkgffgbiemaaWRouteStatic
namespace Go.Proofs.Ytnblkgffgbiemaa
open Go.ChangeShapes Go.WideShapes Go.ChangeAt Go.RowKit
set_option linter.unusedVariables false

set_option maxRecDepth 100000 in
theorem routeStatic_frame (os : Os) (started : os.Started) (H : Type) (enc : TypeId × Value → H) :
    ReturnsInHanded {} Try.checked os 6 .any (Rows.routeStaticSpec.pre6 enc Try.prog Try.f6 Rows.routeStaticRow.domain false) (Rows.routeStaticSpec.post enc Try.prog Try.f6 false true false false) := by
  refine returnsInHanded_of_change_sized (C := Try.checked) ownKnob_no started (by kernel_rfl) Try.func6
    (ChangeSpec.witness6 (enc := enc) (C := Try.checked) false ⟨#[], #[.agg #[.int .u32 0, .int .i64 0], .int .u32 0], []⟩ 8 (by kernel_rfl) (by kernel_rfl) (by kernel_rfl) (by kernel_rfl)) ?_
  intro W base args ds gs before hval0 hW hcnd hsz0 _
  have hval : ∀ (j : Nat) t v, Try.f6.params[j]? = some t → args[j]? = some v → Value.okWide Try.prog W .any base t v := hval0
  have hsz : (DataW.weightsEach Try.prog (Try.f6.params.toList ++ Rows.routeStaticSpec.plain.varTypes Try.prog) (ds ++ gs)).all (· ≤ reachBytes) = true := hsz0
  have hW' := hW
  obtain ⟨p, q, hA0, hV, rfl, hfz, hnd⟩ := hW
  have hA : DataW.TrodAll enc Try.prog W 0 (fun _ => true) true Try.f6.params.toList args.toList ds p := hA0
  rw [Try.params6] at hA hval hsz
  obtain ⟨v0, vs0, d0, ds0, p0, q0, hargs, rfl, rfl, h0, r0⟩ := trodAll_cons hA
  obtain ⟨v1, vs1, d1, ds1, p1, q1, rfl, rfl, rfl, h1, r1⟩ := trodAll_cons r0
  obtain ⟨rfl, rfl, rfl⟩ := trodAll_nil r1
  obtain rfl : args = #[v0, v1] := by cases args; simp_all
  obtain ⟨rfl, rfl⟩ := trodVars_none hV
  have k0 := h0
  have lt0 : ∀ x ∈ p0, x.block < W.heap.size := by obtain ⟨m, hm⟩ := k0; exact DataW.trod_lt m _ _ _ hm
  obtain ⟨A0, L0, rfl, _⟩ := pfxr_of (hval 0 24 v0 rfl rfl) h0
  obtain ⟨u1, rfl, rfl, rfl, wu1⟩ := open_int Try.underlying22 (hval 1 22 v1 rfl rfl) h1
  have bu1 := bounds_u32 wu1
  obtain ⟨n1, rfl⟩ := Int.eq_ofNat_of_zero_le bu1.1
  clear hA0 hval0 hsz hsz0
  refine (routeStatic_walk A0 L0 n1 W (by omega)).mono fun e W' ⟨he, bel⟩ => ?_
  subst he
  exact ⟨_, rfl, _, _, _, [], _, [], hW', trodAll_mk1 (shut_bool Try.underlying4 _), (trodAll_cons_mk (Below.trod laid_all (by kernel_rfl) (of_decide_eq_true (by kernel_rfl)) k0 bel lt0) (trodAll_cons_mk (shut_int Try.underlying22 wu1) trodAll_mk0)), rfl, bel.frame _, fun h => by cases h⟩
theorem routeStatic_over : Rows.routeStaticRow.holds Try.pinned (OpenSpec.ofChange Rows.routeStaticSpec) :=
  OpenClaim.holds_of_wide 6 Try.f6 rfl rfl rfl rfl rfl rfl rfl ⟨rfl, rfl, rfl, rfl, rfl⟩ rfl rfl rfl rfl rfl (by kernel_rfl) Try.func6 (by kernel_rfl)
    (of_decide_eq_true (by kernel_rfl)) (by unfold Func.isWrapper; first | (rw [if_pos (by decide +kernel)]; kernel_rfl) | (rw [if_neg (by decide +kernel)]; exact ⟨rfl, rfl⟩))
    (fun os started H enc _ => routeStatic_frame os started H enc)
/-- The statement. -/
theorem routeStatic_holds : Rows.RouteStaticSaid := routeStatic_over
#print axioms routeStatic_holds
end Go.Proofs.Ytnblkgffgbiemaa
