/- The document's Scan: what it leans on. -/
import Derived.Test.YtolbifboibjgcaaLay
import Derived.Test.YtolbifboibjgcaaRegR
import Derived.Test.YtolbifboibjgcaaRegP
namespace Go.Proofs.Ytolbifboibjgcaa
open Go.RowKit

/-- Read, with the page's place. -/
theorem rdisk_page {w : World} {V : Nat} {s : St} {W P : Nat → Prop} (h : RDisk w V s W P) (hm : Made s) (i : Nat) (hi : i < s.n) :
    Calls Try.prog 34 #[.pointer (some ⟨V, 0, none⟩), .int .i64 (i : Int)] w fun e w' => ∃ b off cap, e = .returned (.slice (some ⟨b, off, none⟩) 64 cap) ∧ 64 ≤ cap ∧ (∀ j, j < 64 → w.cell? ⟨b, off + j, none⟩ = some (.int .u8 (s.now i j : Int))) ∧ w' = w := by
  obtain ⟨sv, lv, pgs, lps, h, rfl⟩ := h
  refine (rread_in h i hi).mono ?_
  rintro e w' ⟨v, rfl, hp, rfl⟩
  obtain ⟨b, off, cap, rfl, hc, _, hf⟩ := hp
  refine ⟨b, off, cap, rfl, hc, fun j hj => ?_, rfl⟩
  rw [show s.now = _ from hm]
  exact hf j hj
set_option maxHeartbeats 400000 in
theorem sameB_some (b1 o1 b2 o2 len c1 c2 : Nat) (f g : Nat → Nat) (w : World) (hm : len ≤ 100000)
    (h1 : ∀ i, i < len → w.cell? ⟨b1, o1 + i, none⟩ = some (.int .u8 (f i : Int))) (h2 : ∀ i, i < len → w.cell? ⟨b2, o2 + i, none⟩ = some (.int .u8 (g i : Int))) :
    Calls Try.prog 24 #[.slice (some ⟨b1, o1, none⟩) len c1, .slice (some ⟨b2, o2, none⟩) len c2] w fun e w' => e = .returned (.bool (eqB f g len)) ∧ ∃ m, w' = w.drewN m := by
  have H1 := hide h1
  have H2 := hide h2
  clear h1 h2
  go_enter Try.func24, Try.ntmps24
  go_wp2
  go_loopw [5] (fun i wq => ∃ k m : Nat, k ≤ len ∧ i = .int .i64 k ∧ Hid (wq = w.drewN m) ∧ Hid (∀ j, j < k → f j = g j)) (fun i _ => len - (intOf i).toNat)
  case atStart => exact ⟨0, 0, Nat.zero_le _, rfl, rfl, fun j hj => absurd hj (by omega)⟩
  case round =>
    obtain ⟨k, m, hk, rfl, HW, HE⟩ := hrel
    by_cases hlt : k < len
    · have c1 : wr.cell? ⟨b1, o1 + k, none⟩ = some (.int .u8 (f k : Int)) := by rw [HW.out, cell_drewN]; exact H1.out k hlt
      have c2 : wr.cell? ⟨b2, o2 + k, none⟩ = some (.int .u8 (g k : Int)) := by rw [HW.out, cell_drewN]; exact H2.out k hlt
      have hk0 : (0 : Int) ≤ (k : Int) := Int.natCast_nonneg _
      have hk1 : (k : Int) < (len : Int) := by omega
      by_cases hfg : f k = g k
      · have e0 : (((f k : Nat) : Int) != ((g k : Nat) : Int)) = false := by rw [hfg]; simp
        have HFG := hide hfg
        clear hfg
        go_wp2_with fail
        go_quiet (fail)
        go_wp2
        exact ⟨⟨k + 1, m + nq, by omega, by go_num, show wr.drewN nq = _ by rw [HW.out, drewN_more], fun j hj => by
          by_cases e : j = k
          · rw [e]; exact HFG.out
          · exact HE.out j (by omega)⟩, by simp [intOf]; omega⟩
      · have e0 : (((f k : Nat) : Int) != ((g k : Nat) : Int)) = true := by simp; omega
        have HFG := hide hfg
        clear hfg
        go_wp2_with fail
        go_quiet (fail)
        go_wp2
        go_ret
        exact ⟨ret_bool (by cases h : eqB f g len with | false => rfl | true => exact absurd ((eqB_iff f g len).1 h k hlt) HFG.out), m + nq, show wr.drewN nq = _ by rw [HW.out, drewN_more]⟩
    · go_wp2
      go_ret
      exact ⟨ret_bool ((eqB_iff f g len).2 fun j hj => HE.out j (by omega)).symm, m, HW.out⟩
/-- One page more. -/
theorem run_more2 {w wq : World} {s : St} {at_ k b off cap : Nat} {v : Value} (h : ReadUp w wq s at_ k v) (hk : k ≤ 2000) (hr : ∀ j, j < 64 → wq.cell? ⟨b, off + j, none⟩ = some (.int .u8 (s.now (at_ + k) j : Int))) :
    ∃ v' w3, (Builtin.append_ #[39, 39] 39 #[v, .slice (some ⟨b, off, none⟩) 64 cap]).run Try.prog wq = .ok v' w3 ∧ ReadUp w w3 s at_ (k + 1) v' := by
  obtain ⟨ho, hbel⟩ := h
  obtain ⟨i0, hi0, hz0, hz1, hz2⟩ := info_parts Try.infoU8
  obtain ⟨v', w3, hrun, ho3, hg, _, _⟩ := run_append_own_at (P := Try.prog) wq w.heap.size 39 39 5 i0 _ 1 1 Try.underlying39 hi0 hz0 hz1 hz2 rfl (by omega) v (k * 64) _ ho ⟨b, off, none⟩ 64 cap (valsOf (s.now (at_ + k)) 64) (by rw [valsOf_length])
    (fun j u hu => by
      have hj : j < 64 := by simpa [valsOf_length] using (List.getElem?_eq_some_iff.1 hu).1
      rw [valsOf_get _ _ _ hj] at hu
      rw [Addr.add_mid, hr j hj, hu]) (valsOf_one _ 64) (by unfold maxLen; omega) (by omega) hbel.size
  rw [runs_vals, show k * 64 + 64 = (k + 1) * 64 from by omega] at ho3
  refine ⟨v', w3, hrun, ho3, ?_⟩
  have k3 : Keeps (fun x => v.ownBlock = some x) wq w3 := (Keeps.refl _ _).grown hg (fun x e => .inl e)
  have hv : ∀ x, v.ownBlock = some x → w.heap.size ≤ x := fun x e => by
    rcases ho.2 with ⟨rfl, _⟩ | ⟨g, cap, cur, rfl, hg, _⟩
    · simp [Value.ownBlock] at e
    · simp [Value.ownBlock] at e; omega
  exact hbel.trans (k3.below _ hbel.size hv)
theorem num_gen {s : St} {at_ : Nat} {e : Int} {gen : Nat} (hg : gen < 4294967296) (h : num (s.now at_) ≠ gen) : isEnt s at_ e gen = false := by
  cases hh : isEnt s at_ e gen with
  | false => rfl
  | true =>
    exfalso
    apply h
    rw [← num_four gen hg]
    refine num_congr fun i hi => ?_
    rw [(isEnt_parts hh).2 i (by omega), ent0_at _ _ _ _ (by omega), head_gen _ _ _ _ hi]
/-- Are the first k pages those of the entry? -/
def okUp (s : St) (at_ gen : Nat) (k : Nat) : Bool := (List.range k).all fun i => eqB (ent gen (runs s (at_ + 1)) (lenAt s at_) i) (s.now (at_ + i)) 64
theorem okUp_zero (s : St) (at_ gen : Nat) : okUp s at_ gen 0 = true := rfl
theorem okUp_succ (s : St) (at_ gen k : Nat) : okUp s at_ gen (k + 1) = (okUp s at_ gen k && eqB (ent gen (runs s (at_ + 1)) (lenAt s at_) k) (s.now (at_ + k)) 64) := by
  unfold okUp
  rw [List.range_succ, List.all_append]
  simp
theorem okUp_iff (s : St) (at_ gen k : Nat) : okUp s at_ gen k = true ↔ ∀ i, i < k → ∀ j, j < 64 → ent gen (runs s (at_ + 1)) (lenAt s at_) i j = s.now (at_ + i) j := by
  unfold okUp
  simp [eqB]
theorem ent_succ (gen : Nat) (f : Nat → Nat) (len i j : Nat) : ent gen f len (i + 1) j = fill (fun q => f (i * 64 + q)) (len - i * 64) j := rfl
theorem pages_same (now : Nat → Nat → Nat) (R : Nat → Nat) (at_ gen L : Nat) (hR : ∀ i j, j < 64 → now (at_ + (i + 1)) j = R (i * 64 + j)) :
    (∀ i, i < cnt L → ∀ j, j < 64 → ent gen R L i j = now (at_ + i) j) ↔ (∀ j, j < (L + 63) / 64 * 64 - L → R (L + j) = 0) ∧ ∀ j, j < 64 → now at_ j = ent gen R L 0 j := by
  have hc : cnt L = 1 + (L + 63) / 64 := rfl
  constructor
  · intro h
    refine ⟨fun j hj => ?_, fun j hj => (h 0 (by omega) j hj).symm⟩
    obtain ⟨d, hd⟩ : ∃ d, d = (L + j) / 64 := ⟨_, rfl⟩
    obtain ⟨m, hm⟩ : ∃ m, m = (L + j) % 64 := ⟨_, rfl⟩
    have h3 := h (d + 1) (by omega) m (by omega)
    rw [ent_succ, hR d m (by omega)] at h3
    unfold fill at h3
    rw [if_neg (by omega), show d * 64 + m = L + j from by omega] at h3
    exact h3.symm
  · rintro ⟨h1, h2⟩ i hi j hj
    cases i with
    | zero => exact (h2 j hj).symm
    | succ i =>
      rw [ent_succ, hR i j hj]
      unfold fill
      by_cases h3 : j < L - i * 64
      · rw [if_pos h3]
      · rw [if_neg h3]
        have := h1 (i * 64 + j - L) (by omega)
        rw [show L + (i * 64 + j - L) = i * 64 + j from by omega] at this
        exact this.symm
theorem runs_at (s : St) (at_ i j : Nat) (hj : j < 64) : s.now (at_ + (i + 1)) j = runs s (at_ + 1) (i * 64 + j) := by
  unfold runs
  rw [show (i * 64 + j) / 64 = i from by omega, show (i * 64 + j) % 64 = j from by omega, show at_ + 1 + i = at_ + (i + 1) from by omega]
theorem isEnt_of_fit {s : St} {at_ gen : Nat} {e : Int} (hf : fit s.n at_ e (lenAt s at_) = true) : isEnt s at_ e gen = (allZ (fun j => runs s (at_ + 1) (lenAt s at_ + j)) ((lenAt s at_ + 63) / 64 * 64 - lenAt s at_) && eqB (s.now at_) (ent gen (runs s (at_ + 1)) (lenAt s at_) 0) 64) := by
  unfold isEnt
  rw [hf, Bool.true_and]
theorem okUp_ent {s : St} {at_ gen : Nat} {e : Int} (hf : fit s.n at_ e (lenAt s at_) = true) : okUp s at_ gen (cnt (lenAt s at_)) = isEnt s at_ e gen := by
  rw [isEnt_of_fit hf]
  have h1 := okUp_iff s at_ gen (cnt (lenAt s at_))
  have h2 := pages_same s.now (runs s (at_ + 1)) at_ gen (lenAt s at_) (fun i j hj => runs_at s at_ i j hj)
  have h3 := allZ_iff (fun j => runs s (at_ + 1) (lenAt s at_ + j)) ((lenAt s at_ + 63) / 64 * 64 - lenAt s at_)
  have h4 := eqB_iff (s.now at_) (ent gen (runs s (at_ + 1)) (lenAt s at_) 0) 64
  rw [Bool.eq_iff_iff, Bool.and_eq_true, h1, h2, h3, h4]
end Go.Proofs.Ytolbifboibjgcaa
