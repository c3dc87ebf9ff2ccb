/- Are attributes not too large? -/
import Derived.Test.YthigjonagbfbbaaDoorKAf
namespace Go.Proofs.YthigjonagbfbbaaDoor
open Go.RowKit
set_option maxRecDepth 100000

/-- Are attributes not too large? -/
def smallA (a : At) : Bool := decide (sizeA a < 3000)
set_option maxHeartbeats 6400000 in
theorem smalla_at (o : Int) (pa : Option Addr) (pn pc : Nat) (nx : Nat) (md pf : Int) (ca : Option Addr) (cn cc : Nat) (ra : Option Addr) (rn rc : Nat) (ps : List (Bool × List Int)) (cs : List Nat) (rs : List (Int × Int × List Nat)) (w : World)
    (hpn : ps.length = pn) (hcn : cs.length = cn) (hrn : rs.length = rn) (h1 : pn ≤ 1152921504606846976) (h2 : cn ≤ 1152921504606846976) (h3 : rn ≤ 1152921504606846976) (HZP : Hid (∀ s ∈ ps, s.2.length ≤ 1152921504606846976)) (HZR : Hid (∀ r ∈ rs, r.2.2.length ≤ 1152921504606846976)) (HR : Hid (AtRd w pa ca ra ⟨o, ps, nx, md, pf, cs, rs⟩)) :
    Calls Tryd.prog 8 #[.agg #[.int .i64 o, .slice pa pn pc, .int .u32 (nx : Int), .int .i64 md, .int .i64 pf, .slice ca cn cc, .slice ra rn rc]] w fun e w' => e = .returned (.bool (smallA ⟨o, ps, nx, md, pf, cs, rs⟩)) ∧ Below w.heap.size w w' := by
  have HPN := hide hpn
  have HCN := hide hcn
  have HRN := hide hrn
  clear hpn hcn hrn
  have wa : IntKind.i64.wrap ((pn : Int) + (cn : Int)) = (pn : Int) + (cn : Int) := by rw [IntKind.wrap_i64]; omega
  have wb : IntKind.i64.wrap ((pn : Int) + (cn : Int) + (rn : Int)) = (pn : Int) + (cn : Int) + (rn : Int) := by rw [IntKind.wrap_i64]; omega
  go_enter Tryd.func8, Tryd.ntmps8
  go_wp2
  go_loop [3, 4] (fun t i => ∃ k x : Nat, k ≤ pn ∧ i = .int .i64 k ∧ t = .int .i64 (x : Int) ∧ x ≤ 4611686018427387904 ∧ Hid (x = pn + cn + rn + sumP (ps.take k))) (fun _ i => pn - (intOf i).toNat)
  case atStart => exact ⟨0, pn + cn + rn, Nat.zero_le _, rfl, by go_num, by omega, by show pn + cn + rn = pn + cn + rn + sumP (ps.take 0); rfl⟩
  case round =>
    obtain ⟨k, x, hk, rfl, rfl, hx, HX⟩ := hrel
    by_cases hlt : k < pn
    · have hk0 : (0 : Int) ≤ (k : Int) := Int.natCast_nonneg _
      have hk1 : (k : Int) < (pn : Int) := by omega
      by_cases hx3 : x < 3000
      · have hkp : k < ps.length := by rw [HPN.out]; exact hlt
        obtain ⟨b, off, hae, hc⟩ := HR.out.path.cells (by show 0 < ps.length; omega)
        subst hae
        obtain ⟨e0, a', c', e1, _⟩ := hc k ps[k] (List.getElem?_eq_getElem hkp)
        have z0 := World.block_lt_of_cell? w _ e0
        simp only at z0
        have HT : Hid (sumP (ps.take (k + 1)) = sumP (ps.take k) + (ps[k]).2.length) := by show sumP (ps.take (k + 1)) = _; rw [List.take_succ_eq_append_getElem hkp, sumP_snoc]
        have hl : (ps[k]).2.length ≤ 1152921504606846976 := HZP.out _ (List.getElem_mem hkp)
        generalize (ps[k]).2.length = l at *
        have j3 : (x : Int) < 3000 := by omega
        clear hx hx3 e0 hc
        go_wp2
        exact ⟨⟨k + 1, x + l, by omega, by go_num, by go_num, by omega, by show x + l = _; rw [HT.out, HX.out]; omega⟩, by simp [intOf]; omega⟩
      · have HS : Hid (smallA ⟨o, ps, nx, md, pf, cs, rs⟩ = false) := decide_eq_false (by
          have h4 := sumP_take ps k
          have h5 := HX.out
          have := HRN.out
          have := HPN.out
          have := HCN.out
          unfold sizeA
          simp only
          omega)
        have j3 : decide ((x : Int) < 3000) = false := decide_eq_false (by omega)
        clear hx hx3
        go_wp2
        go_loop [3, 5] (fun t i => t = .int .i64 (x : Int) ∧ i = .int .i64 0) (fun _ i => 0 - (intOf i).toNat)
        case atStart => exact ⟨rfl, rfl⟩
        case round =>
          obtain ⟨rfl, rfl⟩ := hrel
          by_cases hr0 : 0 < rn
          · have jr : (0 : Int) < (rn : Int) := by omega
            go_wp2
            go_ret
            exact ⟨by rw [HS.out]; rfl, (Below.refl _ _).alloc (Nat.le_refl _) _⟩
          · have hrz : rn = 0 := by omega
            subst hrz
            go_wp2
            go_ret
            exact ⟨by rw [HS.out]; rfl, (Below.refl _ _).alloc (Nat.le_refl _) _⟩
    · have HSUM : Hid (x = pn + cn + rn + sumP ps) := by
        have h9 := HX.out
        rw [List.take_of_length_le (by rw [HPN.out]; omega)] at h9
        exact h9
      have hk1 : decide ((k : Int) < (pn : Int)) = false := decide_eq_false (by omega)
      have hk2 : decide (k < pn) = false := decide_eq_false hlt
      clear HX
      go_wp2
      go_loop [3, 5] (fun t i => ∃ k y : Nat, k ≤ rn ∧ i = .int .i64 k ∧ t = .int .i64 (y : Int) ∧ y ≤ 5764607523034234880 ∧ Hid (y = x + sumR (rs.take k))) (fun _ i => rn - (intOf i).toNat)
      case atStart => exact ⟨0, x, Nat.zero_le _, rfl, rfl, by omega, by show x = x + sumR (rs.take 0); rfl⟩
      case round =>
        obtain ⟨k, y, hk, rfl, rfl, hy, HY⟩ := hrel
        by_cases hlt2 : k < rn
        · have hk0 : (0 : Int) ≤ (k : Int) := Int.natCast_nonneg _
          have hk1 : (k : Int) < (rn : Int) := by omega
          by_cases hy3 : y < 3000
          · have hkp : k < rs.length := by rw [HRN.out]; exact hlt2
            obtain ⟨b, off, hae, hc⟩ := HR.out.raws (by show 0 < rs.length; omega)
            subst hae
            obtain ⟨e0, _, a', c', e2, _, _⟩ := hc k rs[k] (List.getElem?_eq_getElem hkp)
            have z0 := World.block_lt_of_cell? w _ e0
            simp only at z0
            have HT : Hid (sumR (rs.take (k + 1)) = sumR (rs.take k) + (rs[k]).2.2.length) := by show sumR (rs.take (k + 1)) = _; rw [List.take_succ_eq_append_getElem hkp, sumR_snoc]
            have hl : (rs[k]).2.2.length ≤ 1152921504606846976 := HZR.out _ (List.getElem_mem hkp)
            generalize (rs[k]).2.2.length = l at *
            have j3 : (y : Int) < 3000 := by omega
            clear hy hy3 e0 hc
            go_wp2
            exact ⟨⟨k + 1, y + l, by omega, by go_num, by go_num, by omega, by show y + l = _; rw [HT.out, HY.out]; omega⟩, by simp [intOf]; omega⟩
          · have HS : Hid (smallA ⟨o, ps, nx, md, pf, cs, rs⟩ = false) := decide_eq_false (by
              have h1 := sumR_take rs k
              have h2 := HY.out
              have h3 := HSUM.out
              have := HRN.out
              have := HPN.out
              have := HCN.out
              unfold sizeA
              simp only
              omega)
            have j3 : decide ((y : Int) < 3000) = false := decide_eq_false (by omega)
            clear hy hy3
            go_wp2
            go_ret
            exact ⟨by rw [HS.out]; rfl, (Below.refl _ _).alloc (Nat.le_refl _) _⟩
        · have HS : Hid (smallA ⟨o, ps, nx, md, pf, cs, rs⟩ = decide ((y : Int) < 3000)) := by
            have h9 := HY.out
            rw [List.take_of_length_le (by rw [HRN.out]; omega)] at h9
            have h3 := HSUM.out
            have := HRN.out
            have := HPN.out
            have := HCN.out
            show smallA _ = _
            unfold smallA sizeA
            exact decide_eq_decide.2 (by simp only; omega)
          generalize hd : decide ((y : Int) < 3000) = d at *
          go_wp2
          go_ret
          exact ⟨by rw [HS.out]; rfl, (Below.refl _ _).alloc (Nat.le_refl _) _⟩
theorem smalla_any (pa : Option Addr) (pc : Nat) (ca : Option Addr) (cc : Nat) (ra : Option Addr) (rc : Nat) (a : At) (w : World) (h1 : a.path.length ≤ 1152921504606846976) (h2 : ∀ s ∈ a.path, s.2.length ≤ 1152921504606846976) (h3 : a.comms.length ≤ 1152921504606846976) (h4 : a.raws.length ≤ 1152921504606846976) (h5 : ∀ r ∈ a.raws, r.2.2.length ≤ 1152921504606846976) (h : AtRd w pa ca ra a) :
    Calls Tryd.prog 8 #[atV pa pc ca cc ra rc a] w fun e w' => e = .returned (.bool (smallA a)) ∧ Below w.heap.size w w' :=
  smalla_at a.origin pa _ pc a.next a.med a.pref ca _ cc ra _ rc a.path a.comms a.raws w rfl rfl rfl h1 h3 h4 h2 h5 h
end Go.Proofs.YthigjonagbfbbaaDoor
