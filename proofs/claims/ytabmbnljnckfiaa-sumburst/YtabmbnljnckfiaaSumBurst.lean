/- Proved: for every byte slice, place and number to turn by, the sum of the bytes with up to 32 bits side by side turned is unlike the sum of the bytes (5 to 1000 of them), and nothing that was there is changed; no condition. The frame round the walk was written by the guide's program. -/
import Derived.Test.YtabmbnljnckfiaaRows
import Derived.WalkKit
import Derived.ProofKit
import Derived.OpenShut
import Derived.ShutString
import Derived.ChangeOld
import Derived.Below
import Derived.Test.YtabmbnljnckfiaaWalks
import Derived.Test.YtabmbnljnckfiaaCopy
namespace Go.Proofs.Ytabmbnljnckfiaa.sumBurst
open Go.ChangeShapes Go.WideShapes Go.ChangeAt Go.RowKit
open Go.ChangeMaps (open_string shut_string)
set_option linter.unusedVariables false

theorem own : ownKnob Try.prog.godebug = none := by kernel_rfl
theorem laidOut : laidOutB Try.prog = true := by kernel_rfl

/-! ### The walk: the Go text returns true, and writes nothing that was there -/
theorem walk (a0 : Option Addr) (len0 cap0 : Nat) (z0 : List Int) (a1 : Int) (a2 : Int) (w : World) (w0 : IsRow .u8 w a0 len0 cap0 z0) (w1 : (Lit.int .u16 a1).wf = true) (w2 : (Lit.int .u32 a2).wf = true) :
    Calls Try.prog 4 #[.slice a0 len0 cap0, .int .u16 a1, .int .u32 a2] w fun e w' => e = .returned (.bool true) ∧ Below w.heap.size w w' := by
  have hrow := row_of w0
  clear w0
  have ht := bounds_u32 w2
  have ha := bounds_u16 w1
  clear w1 w2
  generalize (fun i => (z0.getD i 0).toNat) = f at hrow
  obtain ⟨t, rfl⟩ := Int.eq_ofNat_of_zero_le ht.1
  by_cases h0 : len0 < 5
  · go_enter Try.func4, Try.ntmps4
    go_wp2_with fail
    refine (answers_any _).mono ?_
    rintro e w1 ⟨rfl, hb⟩
    go_wp2
    go_ret
    exact ⟨rfl, hb⟩
  by_cases h1 : 1000 < len0
  · go_enter Try.func4, Try.ntmps4
    go_wp2_with fail
    refine (answers_any _).mono ?_
    rintro e w1 ⟨rfl, hb⟩
    go_wp2
    go_ret
    exact ⟨rfl, hb⟩
  by_cases h2 : t = 0
  · subst h2
    go_enter Try.func4, Try.ntmps4
    go_wp2_with fail
    refine (answers_any _).mono ?_
    rintro e w1 ⟨rfl, hb⟩
    go_wp2
    go_ret
    exact ⟨rfl, hb⟩
  have hn2 : ((t : Int) == 0) = false := by simp; omega
  have hlt5 : decide ((len0 : Int) < 5) = false := by simp; omega
  have hgt : decide (1000 < (len0 : Int)) = false := by simp; omega
  have hrow' := hrow
  obtain ⟨hm, hf, h3⟩ := hrow'
  obtain ⟨b, off, rfl, hc⟩ := h3 (by omega)
  clear h3 hm
  obtain ⟨i0, hi, hz0, hz1, hz2⟩ := info_parts Try.info5
  have hc1 : ∀ i, i < len0 → (w.alloc (.cells #[] 5)).cell? ⟨b, off + i, none⟩ = some (.int .u8 (f i : Int)) := fun i hi => by
    exact cell_later ((Below.refl _ _).alloc (Nat.le_refl _) _) (hc i hi)
  have hnews := valsOf_at f len0 b off _ hc1
  clear hc hc1
  have hpos : 0 < len0 := by omega
  have hk0 : 0 ≤ a1 % ((len0 : Int) - 4) := Int.emod_nonneg _ (by omega)
  have hk1 : a1 % ((len0 : Int) - 4) < (len0 : Int) - 4 := Int.emod_lt_of_pos _ (by omega)
  obtain ⟨k, hk⟩ := Int.eq_ofNat_of_zero_le hk0
  have hkl : k + 4 < len0 + 1 := by omega
  clear hk0 hk1
  have HF := hide hf
  clear hf
  go_enter Try.func4, Try.ntmps4
  go_wp2_with (at_builtin; refine wpList_append_own _ rfl _ _ 22 rfl w.heap.size 5 i0 (.int .u8 0) 1 1 Try.underlying22 hi hz0 hz1 hz2 rfl (by decide) _ 0 [] rfl (empty_own w) ⟨b, off, none⟩ len0 cap0 (valsOf f len0) rfl (by rw [valsOf_length]; omega) hnews (valsOf_one f len0) (by unfold maxLen; omega) (by omega) (by simp) ?_; intro v1 w1 hown hgrow _; obtain ⟨g, c1, rfl, hg, hcc, hfr, hbl⟩ := copy_facts hpos hown hgrow; clear hown hgrow hnews hi hz0 hz1 hz2; have HCC := hide hcc; have HFR := hide hfr; clear hcc hfr)
  rw [hk]
  clear hk
  go_loopw [9] (fun i w' => ∃ m : Nat, m ≤ 4 ∧ i = .int .i64 m ∧ Hid (Below w.heap.size w w') ∧ Hid (∀ i, i < len0 → w'.cell? ⟨g, i, none⟩ = some (.int .u8 (turned f k t m i : Int))) ∧ Hid (∀ i, w'.frozen? ⟨g, i, none⟩ = false)) (fun i _ => 4 - (intOf i).toNat)
  case atStart => exact ⟨0, Nat.zero_le _, rfl, hbl, by rw [turned_zero]; exact HCC, HFR⟩
  case round =>
    clear HCC HFR hbl
    obtain ⟨m, hm, rfl, hB, hC, hF⟩ := hrel
    by_cases hlt : m < 4
    · have hck := hC.out (k + m) (by omega)
      have hfk := hF.out (k + m)
      rw [turned_at] at hck
      have hb256 := HF.out (k + m) (by omega)
      go_wp2
      rw [xor_turn _ t m hb256]
      refine ⟨⟨m + 1, by omega, by go_num, hB.out.setCell hg _, ?_, fun i => ?_⟩, by simp [intOf]; omega⟩
      · rw [turned_succ]
        exact cells_set _ (by omega) hC.out
      · rw [World.frozen?_setCell]
        exact hF.out i
    · obtain rfl : m = 4 := by omega
      have hr1 := row_below hrow hB.out
      have hr2 := row_mk (by omega) (turned_lt HF.out) hC.out
      have hd2 := crc_ne (crc_burst f k len0 t (by omega) HF.out (by omega) h2)
      clear hC hF HF hrow
      generalize turned f k t 4 = f2 at *
      go_wp2_with fail
      refine (answers_any _).mono ?_
      rintro e w2 ⟨rfl, hb⟩
      have hr3 := row_below hr1 hb
      have hr4 := row_below hr2 hb
      clear hr1 hr2
      go_wp2_with fail
      refine (of_any _ _ _ f _ hr3).mono ?_
      rintro e w' ⟨rfl, rfl⟩
      go_wp2_with fail
      refine (of_any _ _ _ f2 _ hr4).mono ?_
      rintro e w' ⟨rfl, rfl⟩
      go_wp2
      go_ret
      exact ⟨rfl, hB.out.trans (hb.mono hB.out.size)⟩

/-! ### The row's step -/
set_option maxRecDepth 100000 in
theorem lifted (os : Os) (started : os.Started) (H : Type) (enc : TypeId × Value → H) :
    ReturnsInHanded {} Try.checked os 4 .any (Rows.sumBurstSpec.pre6 enc Try.prog Try.f4 Rows.sumBurstRow.domain false) (Rows.sumBurstSpec.post enc Try.prog Try.f4 false true false false) := by
  refine returnsInHanded_of_change (C := Try.checked) own started (by kernel_rfl) Try.func4
    (ChangeSpec.witness6 (enc := enc) (C := Try.checked) false ⟨#[], #[.slice none 0 0, .int .u16 0, .int .u32 0], []⟩ 8 (by kernel_rfl) (by kernel_rfl) (by kernel_rfl) (by kernel_rfl)) ?_
  intro W base args ds gs before hval0 hW hcnd _
  have hval : ∀ (j : Nat) t v, Try.f4.params[j]? = some t → args[j]? = some v → Value.okWide Try.prog W .any base t v := hval0
  have hW' := hW
  obtain ⟨p, q, hA0, hV, rfl, hfz, hnd⟩ := hW
  have hA : DataW.TrodAll enc Try.prog W 0 (fun _ => true) true Try.f4.params.toList args.toList ds p := hA0
  rw [Try.params4] at hA hval
  obtain ⟨v0, vs0, d0, ds0, p0, q0, hargs, rfl, rfl, h0, r0⟩ := trodAll_cons hA
  obtain ⟨v1, vs1, d1, ds1, p1, q1, rfl, rfl, rfl, h1, r1⟩ := trodAll_cons r0
  obtain ⟨v2, vs2, d2, ds2, p2, q2, rfl, rfl, rfl, h2, r2⟩ := trodAll_cons r1
  obtain ⟨rfl, rfl, rfl⟩ := trodAll_nil r2
  obtain rfl : args = #[v0, v1, v2] := by cases args; simp_all
  obtain ⟨rfl, rfl⟩ := trodVars_none hV
  obtain ⟨a0, len0, cap0, rfl⟩ := okWide_slice Try.underlying22 (hval 0 22 v0 rfl rfl)
  have k0 := h0
  have lt0 : ∀ x ∈ p0, x.block < W.heap.size := by obtain ⟨m, hm⟩ := k0; exact DataW.trod_lt m _ _ _ hm
  obtain ⟨z0, w0⟩ : ∃ zs, IsRow .u8 W a0 len0 cap0 zs := by
    obtain ⟨fuel, hf⟩ := h0
    rcases open_ints Try.underlying22 Try.underlying5 (by kernel_rfl) hf with ⟨hcs, _⟩ | ⟨x, l, c, zs, hcs, _, hl, hm, hz, _, hcell, hwz⟩
    · simp [Value.cells] at hcs
      obtain ⟨rfl, rfl, rfl⟩ := hcs
      exact ⟨[], .inl ⟨rfl, rfl, rfl, rfl⟩⟩
    · simp [Value.cells] at hcs
      obtain ⟨rfl, rfl, rfl⟩ := hcs
      exact ⟨zs, .inr ⟨_, rfl, hl, hm, by simpa using hz, hcell, hwz⟩⟩
  obtain ⟨a1, rfl, rfl, rfl, w1⟩ := open_int Try.underlying27 (hval 1 27 v1 rfl rfl) h1
  obtain ⟨a2, rfl, rfl, rfl, w2⟩ := open_int Try.underlying24 (hval 2 24 v2 rfl rfl) h2
  clear hA0 hval0
  refine (walk a0 len0 cap0 z0 a1 a2 W w0 w1 w2).mono fun e W' ⟨he, bel⟩ => ?_
  subst he
  exact ⟨_, rfl, _, _, _, [], _, [], hW', trodAll_mk1 (shut_bool Try.underlying4 _), (trodAll_cons_mk (Below.trod laidOut (by kernel_rfl) (of_decide_eq_true (by kernel_rfl)) k0 bel lt0) (trodAll_cons_mk (shut_int Try.underlying27 w1) (trodAll_cons_mk (shut_int Try.underlying24 w2) trodAll_mk0))), rfl, bel.frame _, fun h => by cases h⟩

theorem over : Rows.sumBurstRow.holds Try.pinned (OpenSpec.ofChange Rows.sumBurstSpec) :=
  OpenClaim.holds_of_wide 4 Try.f4 rfl rfl rfl rfl rfl rfl rfl ⟨rfl, rfl, rfl, rfl, rfl⟩ rfl rfl rfl rfl rfl (by kernel_rfl) Try.func4 (by kernel_rfl)
    (of_decide_eq_true (by kernel_rfl)) (by unfold Func.isWrapper; first | (rw [if_pos (by decide +kernel)]; kernel_rfl) | (rw [if_neg (by decide +kernel)]; exact ⟨rfl, rfl⟩))
    (fun os started H enc _ => lifted os started H enc)

end Go.Proofs.Ytabmbnljnckfiaa.sumBurst
namespace Go.Proofs.Ytabmbnljnckfiaa
/-- The statement. -/
theorem sumBurst_holds : Rows.SumBurstSaid := sumBurst.over
#print axioms sumBurst_holds
end Go.Proofs.Ytabmbnljnckfiaa
