/- The document's GoodAttrs, its loop. -/
import Derived.Test.YtclihbfjendllaaDoorAtGd
namespace Go.Proofs.YtclihbfjendllaaDoor
open Go.RowKit
set_option maxRecDepth 100000

theorem typAt_get (rs : List (Int × Int × List Nat)) (i : Nat) (h : i < rs.length) : typAt rs i = (rs[i]).2.1 := by
  unfold typAt
  rw [List.getD_eq_getElem?_getD, List.getElem?_eq_getElem h]; rfl
theorem rawsUp_get (rs : List (Int × Int × List Nat)) (k : Nat) (h : k < rs.length) : rawsUp rs (k + 1) = (rawsUp rs k && rawK rs[k] && (decide (k = 0) || decide (typAt rs (k - 1) < (rs[k]).2.1))) := by
  rw [rawsUp, typAt_get rs k h, show rs.getD k (0, 0, []) = rs[k] from by rw [List.getD_eq_getElem?_getD, List.getElem?_eq_getElem h]; rfl]
set_option maxHeartbeats 12800000 in
theorem gooda_yes (o : Int) (pa : Option Addr) (pn pc : Nat) (nx : Nat) (md pf : Int) (ca : Option Addr) (cn cc : Nat) (b off rn rc : Nat) (rs : List (Int × Int × List Nat)) (w : World)
    (KP : Hid (∀ w1, Below w.heap.size w w1 → Calls Tryd.prog 48 #[.slice pa pn pc] w1 fun e w' => e = .returned (.bool true) ∧ w' = w1)) (KH : Hid (∀ w1, Calls Tryd.prog 21 #[.int .u32 (nx : Int)] w1 fun e w' => e = .returned (.bool true) ∧ w' = w1))
    (ho : 0 ≤ o ∧ o ≤ 2) (hm : -1 ≤ md ∧ md ≤ 4294967295) (hp : -1 ≤ pf ∧ pf ≤ 4294967295) (hcn : cn ≤ 32) (hrn : rs.length = rn) (hrb : rn + sumR rs ≤ 100000) (HR : Hid (RawAt w b off rs)) :
    Calls Tryd.prog 31 #[.agg #[.int .i64 o, .slice pa pn pc, .int .u32 (nx : Int), .int .i64 md, .int .i64 pf, .slice ca cn cc, .slice (some ⟨b, off, none⟩) rn rc]] w fun e w' => e = .returned (.bool (rawsUp rs rn)) ∧ Below w.heap.size w w' := by
  have HRN := hide hrn
  clear hrn
  have d1 : decide (o < 0) = false := decide_eq_false (by omega)
  have d2 : decide (2 < o) = false := decide_eq_false (by omega)
  have d3 : decide (md < -1) = false := decide_eq_false (by omega)
  have d4 : decide (4294967295 < md) = false := decide_eq_false (by omega)
  have d5 : decide (pf < -1) = false := decide_eq_false (by omega)
  have d6 : decide (4294967295 < pf) = false := decide_eq_false (by omega)
  have d7 : decide ((32 : Int) < (cn : Int)) = false := decide_eq_false (by omega)
  clear ho hm hp hcn
  go_enter Tryd.func31, Tryd.ntmps31
  go_wp2_with fail
  refine (KP.out _ ((Below.refl _ _).alloc (Nat.le_refl _) _)).mono ?_
  rintro e w1 ⟨rfl, hw1⟩
  subst hw1
  go_wp2_with fail
  refine (KH.out _).mono ?_
  rintro e w1 ⟨rfl, hw1⟩
  subst hw1
  go_wp2
  go_loopw [3] (fun i wq => ∃ k : Nat, k ≤ rn ∧ i = .int .i64 k ∧ Hid (rawsUp rs k = true) ∧ Hid (Below w.heap.size w wq) ∧ w.heap.size < wq.heap.size ∧ wq.cell? ⟨w.heap.size, 6, none⟩ = some (.slice (some ⟨b, off, none⟩) rn rc)) (fun i _ => rn - (intOf i).toNat)
  case atStart => exact ⟨0, Nat.zero_le _, rfl, rfl, (Below.refl _ _).alloc (Nat.le_refl _) _, by simp, by simp [go_sem]⟩
  case round =>
    obtain ⟨k, hk, rfl, HU, HB, hz, cx⟩ := hrel
    by_cases hlt : k < rn
    · have hkp : k < rs.length := by rw [HRN.out]; exact hlt
      obtain ⟨e0, e1, a', c', e2, _, _⟩ := HR.out k rs[k] (List.getElem?_eq_getElem hkp)
      have z0 := World.block_lt_of_cell? w _ e0
      simp only at z0
      have z1 : b < wr.heap.size := Nat.lt_of_lt_of_le z0 HB.out.size
      have f0 : wr.cell? ⟨b, off + k * 3, none⟩ = some (.int .i64 (rs[k]).1) := by rw [HB.out.cell (p := ⟨b, off + k * 3, none⟩) z0]; exact e0
      have f1 : wr.cell? ⟨b, off + k * 3 + 1, none⟩ = some (.int .i64 (rs[k]).2.1) := by rw [HB.out.cell (p := ⟨b, off + k * 3 + 1, none⟩) z0]; exact e1
      have f2 : wr.cell? ⟨b, off + k * 3 + 2, none⟩ = some (.slice a' (rs[k]).2.2.length c') := by rw [HB.out.cell (p := ⟨b, off + k * 3 + 2, none⟩) z0]; exact e2
      have HT := hide (rawsUp_get rs k hkp)
      have hll : (rs[k]).2.2.length ≤ 100000 := by have := sumR_mem rs _ (List.getElem_mem hkp); omega
      have HPV : Hid (0 < k → wr.cell? ⟨b, off + (k - 1) * 3 + 1, none⟩ = some (.int .i64 (typAt rs (k - 1)))) := fun h9 => by
        have hkq : k - 1 < rs.length := by omega
        obtain ⟨_, t1, _⟩ := HR.out (k - 1) rs[k - 1] (List.getElem?_eq_getElem hkq)
        rw [HB.out.cell (p := ⟨b, off + (k - 1) * 3 + 1, none⟩) z0, typAt_get rs (k - 1) hkq]
        exact t1
      have HNO : Hid (rawsUp rs (k + 1) = false → rawsUp rs rn = false) := fun h9 => rawsUp_false h9 rn (by omega)
      generalize rs[k] = r at *
      obtain ⟨fl, ty, ds⟩ := r
      simp only at f0 f1 f2 HT hll
      have HLL : Hid (rawK (fl, ty, ds) = decide (ty = 6 ∧ fl = 64 ∧ ds.length = 0 ∨ ty = 7 ∧ fl = 192 ∧ ds.length = 8 ∨ 8 < ty ∧ ty ≤ 255 ∧ fl = 224 ∧ ds.length ≤ 255)) := rfl
      generalize ds.length = l at *
      generalize rawK (fl, ty, ds) = kb at *
      generalize typAt rs (k - 1) = pt at *
      clear e0 e1 e2
      have hk0 : (0 : Int) ≤ (k : Int) := Int.natCast_nonneg _
      have hk1 : (k : Int) < (rn : Int) := by omega
      by_cases t6 : ty = 6
      · subst t6
        by_cases f64 : fl = 64
        · subst f64
          by_cases l0 : l = 0
          · subst l0
            have hkb : kb = true := by rw [HLL.out]; exact decide_eq_true (by omega)
            subst hkb
            by_cases hkz : k = 0
            · have jk : decide ((0 : Int) < (k : Int)) = false := decide_eq_false (by omega)
              have jk2 : decide (0 < k) = false := decide_eq_false (by omega)
              have HG : Hid (rawsUp rs (k + 1) = true) := by show rawsUp rs (k + 1) = true; rw [HT.out, HU.out, decide_eq_true hkz]; rfl
              clear HLL HT HNO HPV hkz
              go_wp2_with fail
              go_region
              go_wp2
              exact ⟨⟨k + 1, by omega, by go_num, HG, (HB.out.alloc HB.out.size _).drew, by simp; omega, by simp [go_sem, hz, cx]⟩, by simp [intOf]; omega⟩
            · have hkn : 0 < k := by omega
              have jk : (0 : Int) < (k : Int) := by omega
              have pv := HPV.out hkn
              have wk : IntKind.i64.wrap ((k : Int) - 1) = ((k - 1 : Nat) : Int) := by rw [IntKind.wrap_i64]; omega
              have jj0 : (0 : Int) ≤ ((k - 1 : Nat) : Int) := Int.natCast_nonneg _
              have jj1 : ((k - 1 : Nat) : Int) < (rn : Int) := by omega
              by_cases hpt : (6 : Int) ≤ pt
              · have HG : Hid (rawsUp rs rn = false) := by
                  refine HNO.out ?_
                  rw [HT.out, decide_eq_false hkz, decide_eq_false (by omega), Bool.or_false, Bool.and_false]
                clear HLL HT HNO HPV
                go_wp2_with fail
                go_region
                go_wp2
                go_ret
                exact ⟨ret_bool HG.out.symm, (HB.out.alloc HB.out.size _).drew⟩
              · have hpf : decide ((6 : Int) ≤ pt) = false := decide_eq_false hpt
                have HG : Hid (rawsUp rs (k + 1) = true) := by show rawsUp rs (k + 1) = true; rw [HT.out, HU.out, decide_eq_true (show pt < (6 : Int) by omega), Bool.or_true]; rfl
                clear HLL HT HNO HPV
                go_wp2_with fail
                go_region
                go_wp2
                exact ⟨⟨k + 1, by omega, by go_num, HG, (HB.out.alloc HB.out.size _).drew, by simp; omega, by simp [go_sem, hz, cx]⟩, by simp [intOf]; omega⟩
          · have m0 : ((l : Int) == 0) = false := by simp; omega
            have HG : Hid (rawsUp rs rn = false) := by
              refine HNO.out ?_
              rw [HT.out, show kb = false from by rw [HLL.out]; exact decide_eq_false (by omega), Bool.and_false, Bool.false_and]
            clear HLL HT HNO HPV
            go_wp2_with fail
            go_region
            go_wp2
            go_ret
            exact ⟨ret_bool HG.out.symm, (HB.out.alloc HB.out.size _).drew⟩
        · have m0 : (fl == 64) = false := by simpa using f64
          have HG : Hid (rawsUp rs rn = false) := by
            refine HNO.out ?_
            rw [HT.out, show kb = false from by rw [HLL.out]; exact decide_eq_false (by omega), Bool.and_false, Bool.false_and]
          clear HLL HT HNO HPV
          go_wp2_with fail
          go_region
          go_wp2
          go_ret
          exact ⟨ret_bool HG.out.symm, (HB.out.alloc HB.out.size _).drew⟩
      · have n6 : (ty == 6) = false := by simpa using t6
        by_cases t7 : ty = 7
        · subst t7
          by_cases f64 : fl = 192
          · subst f64
            by_cases l0 : l = 8
            · subst l0
              have hkb : kb = true := by rw [HLL.out]; exact decide_eq_true (by omega)
              subst hkb
              by_cases hkz : k = 0
              · have jk : decide ((0 : Int) < (k : Int)) = false := decide_eq_false (by omega)
                have jk2 : decide (0 < k) = false := decide_eq_false (by omega)
                have HG : Hid (rawsUp rs (k + 1) = true) := by show rawsUp rs (k + 1) = true; rw [HT.out, HU.out, decide_eq_true hkz]; rfl
                clear HLL HT HNO HPV hkz
                go_wp2_with fail
                go_region
                go_wp2
                exact ⟨⟨k + 1, by omega, by go_num, HG, (HB.out.alloc HB.out.size _).drew, by simp; omega, by simp [go_sem, hz, cx]⟩, by simp [intOf]; omega⟩
              · have hkn : 0 < k := by omega
                have jk : (0 : Int) < (k : Int) := by omega
                have pv := HPV.out hkn
                have wk : IntKind.i64.wrap ((k : Int) - 1) = ((k - 1 : Nat) : Int) := by rw [IntKind.wrap_i64]; omega
                have jj0 : (0 : Int) ≤ ((k - 1 : Nat) : Int) := Int.natCast_nonneg _
                have jj1 : ((k - 1 : Nat) : Int) < (rn : Int) := by omega
                by_cases hpt : (7 : Int) ≤ pt
                · have HG : Hid (rawsUp rs rn = false) := by
                    refine HNO.out ?_
                    rw [HT.out, decide_eq_false hkz, decide_eq_false (by omega), Bool.or_false, Bool.and_false]
                  clear HLL HT HNO HPV
                  go_wp2_with fail
                  go_region
                  go_wp2
                  go_ret
                  exact ⟨ret_bool HG.out.symm, (HB.out.alloc HB.out.size _).drew⟩
                · have hpf : decide ((7 : Int) ≤ pt) = false := decide_eq_false hpt
                  have HG : Hid (rawsUp rs (k + 1) = true) := by show rawsUp rs (k + 1) = true; rw [HT.out, HU.out, decide_eq_true (show pt < (7 : Int) by omega), Bool.or_true]; rfl
                  clear HLL HT HNO HPV
                  go_wp2_with fail
                  go_region
                  go_wp2
                  exact ⟨⟨k + 1, by omega, by go_num, HG, (HB.out.alloc HB.out.size _).drew, by simp; omega, by simp [go_sem, hz, cx]⟩, by simp [intOf]; omega⟩
            · have m0 : ((l : Int) == 8) = false := by simp; omega
              have HG : Hid (rawsUp rs rn = false) := by
                refine HNO.out ?_
                rw [HT.out, show kb = false from by rw [HLL.out]; exact decide_eq_false (by omega), Bool.and_false, Bool.false_and]
              clear HLL HT HNO HPV
              go_wp2_with fail
              go_region
              go_wp2
              go_ret
              exact ⟨ret_bool HG.out.symm, (HB.out.alloc HB.out.size _).drew⟩
          · have m0 : (fl == 192) = false := by simpa using f64
            have HG : Hid (rawsUp rs rn = false) := by
              refine HNO.out ?_
              rw [HT.out, show kb = false from by rw [HLL.out]; exact decide_eq_false (by omega), Bool.and_false, Bool.false_and]
            clear HLL HT HNO HPV
            go_wp2_with fail
            go_region
            go_wp2
            go_ret
            exact ⟨ret_bool HG.out.symm, (HB.out.alloc HB.out.size _).drew⟩
        · have n7 : (ty == 7) = false := by simpa using t7
          by_cases t8 : 8 < ty
          · by_cases t9 : ty ≤ 255
            · by_cases f64 : fl = 224
              · subst f64
                by_cases l0 : l ≤ 255
                · have l1 : (l : Int) ≤ 255 := by omega
                  have hkb : kb = true := by rw [HLL.out]; exact decide_eq_true (by omega)
                  subst hkb
                  by_cases hkz : k = 0
                  · have jk : decide ((0 : Int) < (k : Int)) = false := decide_eq_false (by omega)
                    have jk2 : decide (0 < k) = false := decide_eq_false (by omega)
                    have HG : Hid (rawsUp rs (k + 1) = true) := by show rawsUp rs (k + 1) = true; rw [HT.out, HU.out, decide_eq_true hkz]; rfl
                    clear HLL HT HNO HPV hkz
                    go_wp2_with fail
                    go_region
                    go_wp2
                    exact ⟨⟨k + 1, by omega, by go_num, HG, (HB.out.alloc HB.out.size _).drew, by simp; omega, by simp [go_sem, hz, cx]⟩, by simp [intOf]; omega⟩
                  · have hkn : 0 < k := by omega
                    have jk : (0 : Int) < (k : Int) := by omega
                    have pv := HPV.out hkn
                    have wk : IntKind.i64.wrap ((k : Int) - 1) = ((k - 1 : Nat) : Int) := by rw [IntKind.wrap_i64]; omega
                    have jj0 : (0 : Int) ≤ ((k - 1 : Nat) : Int) := Int.natCast_nonneg _
                    have jj1 : ((k - 1 : Nat) : Int) < (rn : Int) := by omega
                    by_cases hpt : ty ≤ pt
                    · have HG : Hid (rawsUp rs rn = false) := by
                        refine HNO.out ?_
                        rw [HT.out, decide_eq_false hkz, decide_eq_false (by omega), Bool.or_false, Bool.and_false]
                      clear HLL HT HNO HPV
                      go_wp2_with fail
                      go_region
                      go_wp2
                      go_ret
                      exact ⟨ret_bool HG.out.symm, (HB.out.alloc HB.out.size _).drew⟩
                    · have hpf : decide (ty ≤ pt) = false := decide_eq_false hpt
                      have HG : Hid (rawsUp rs (k + 1) = true) := by show rawsUp rs (k + 1) = true; rw [HT.out, HU.out, decide_eq_true (show pt < ty by omega), Bool.or_true]; rfl
                      clear HLL HT HNO HPV
                      go_wp2_with fail
                      go_region
                      go_wp2
                      exact ⟨⟨k + 1, by omega, by go_num, HG, (HB.out.alloc HB.out.size _).drew, by simp; omega, by simp [go_sem, hz, cx]⟩, by simp [intOf]; omega⟩
                · have m0 : decide ((l : Int) ≤ 255) = false := decide_eq_false (by omega)
                  have HG : Hid (rawsUp rs rn = false) := by
                    refine HNO.out ?_
                    rw [HT.out, show kb = false from by rw [HLL.out]; exact decide_eq_false (by omega), Bool.and_false, Bool.false_and]
                  clear HLL HT HNO HPV
                  go_wp2_with fail
                  go_region
                  go_wp2
                  go_ret
                  exact ⟨ret_bool HG.out.symm, (HB.out.alloc HB.out.size _).drew⟩
              · have m0 : (fl == 224) = false := by simpa using f64
                have HG : Hid (rawsUp rs rn = false) := by
                  refine HNO.out ?_
                  rw [HT.out, show kb = false from by rw [HLL.out]; exact decide_eq_false (by omega), Bool.and_false, Bool.false_and]
                clear HLL HT HNO HPV
                go_wp2_with fail
                go_region
                go_wp2
                go_ret
                exact ⟨ret_bool HG.out.symm, (HB.out.alloc HB.out.size _).drew⟩
            · have m0 : decide (ty ≤ 255) = false := decide_eq_false t9
              have HG : Hid (rawsUp rs rn = false) := by
                refine HNO.out ?_
                rw [HT.out, show kb = false from by rw [HLL.out]; exact decide_eq_false (by omega), Bool.and_false, Bool.false_and]
              clear HLL HT HNO HPV
              go_wp2_with fail
              go_region
              go_wp2
              go_ret
              exact ⟨ret_bool HG.out.symm, (HB.out.alloc HB.out.size _).drew⟩
          · have m0 : decide (8 < ty) = false := decide_eq_false t8
            have HG : Hid (rawsUp rs rn = false) := by
              refine HNO.out ?_
              rw [HT.out, show kb = false from by rw [HLL.out]; exact decide_eq_false (by omega), Bool.and_false, Bool.false_and]
            clear HLL HT HNO HPV
            go_wp2_with fail
            go_region
            go_wp2
            go_ret
            exact ⟨ret_bool HG.out.symm, (HB.out.alloc HB.out.size _).drew⟩
    · have hkn : k = rn := by omega
      subst hkn
      go_wp2
      go_ret
      exact ⟨ret_bool HU.out.symm, HB.out⟩
set_option maxHeartbeats 1600000 in
theorem gooda_none (o : Int) (pa : Option Addr) (pn pc : Nat) (nx : Nat) (md pf : Int) (ca : Option Addr) (cn cc : Nat) (ra : Option Addr) (rc : Nat) (w : World)
    (KP : Hid (∀ w1, Below w.heap.size w w1 → Calls Tryd.prog 48 #[.slice pa pn pc] w1 fun e w' => e = .returned (.bool true) ∧ w' = w1)) (KH : Hid (∀ w1, Calls Tryd.prog 21 #[.int .u32 (nx : Int)] w1 fun e w' => e = .returned (.bool true) ∧ w' = w1))
    (ho : 0 ≤ o ∧ o ≤ 2) (hm : -1 ≤ md ∧ md ≤ 4294967295) (hp : -1 ≤ pf ∧ pf ≤ 4294967295) (hcn : cn ≤ 32) :
    Calls Tryd.prog 31 #[.agg #[.int .i64 o, .slice pa pn pc, .int .u32 (nx : Int), .int .i64 md, .int .i64 pf, .slice ca cn cc, .slice ra 0 rc]] w fun e w' => e = .returned (.bool true) ∧ Below w.heap.size w w' := by
  have d1 : decide (o < 0) = false := decide_eq_false (by omega)
  have d2 : decide (2 < o) = false := decide_eq_false (by omega)
  have d3 : decide (md < -1) = false := decide_eq_false (by omega)
  have d4 : decide (4294967295 < md) = false := decide_eq_false (by omega)
  have d5 : decide (pf < -1) = false := decide_eq_false (by omega)
  have d6 : decide (4294967295 < pf) = false := decide_eq_false (by omega)
  have d7 : decide ((32 : Int) < (cn : Int)) = false := decide_eq_false (by omega)
  clear ho hm hp hcn
  go_enter Tryd.func31, Tryd.ntmps31
  go_wp2_with fail
  refine (KP.out _ ((Below.refl _ _).alloc (Nat.le_refl _) _)).mono ?_
  rintro e w1 ⟨rfl, hw1⟩
  subst hw1
  go_wp2_with fail
  refine (KH.out _).mono ?_
  rintro e w1 ⟨rfl, hw1⟩
  subst hw1
  go_wp2
  go_loop [3] (fun i => i = .int .i64 0) (fun i => 0 - (intOf i).toNat)
  case atStart => exact rfl
  case round =>
    obtain rfl := hrel
    go_wp2
    go_ret
    exact ⟨rfl, (Below.refl _ _).alloc (Nat.le_refl _) _⟩
theorem gooda_any (pa : Option Addr) (pc : Nat) (ca : Option Addr) (cc : Nat) (ra : Option Addr) (rc : Nat) (a : At) (w : World) (hl : sizeA a ≤ 100000) (h : AtRd w pa ca ra a) :
    Calls Tryd.prog 31 #[atV pa pc ca cc ra rc a] w fun e w' => e = .returned (.bool (goodA a)) ∧ Below w.heap.size w w' := by
  have KP : Hid (∀ w1, Below w.heap.size w w1 → Calls Tryd.prog 48 #[.slice pa a.path.length pc] w1 fun e w' => e = .returned (.bool (goodP a.path)) ∧ w' = w1) := fun w1 hb => rgood_any pa pc a.path w1 (by unfold sizeA at hl; omega) (h.path.below hb)
  have KH : Hid (∀ w1, Calls Tryd.prog 21 #[.int .u32 (a.next : Int)] w1 fun e w' => e = .returned (.bool (hopB a.next)) ∧ w' = w1) := fun w1 => hop_any a.next w1
  unfold atV goodA
  cases hh : headA a with
  | false =>
    rw [Bool.false_and]
    exact gooda_no a.origin pa _ pc a.next a.med a.pref ca _ cc ra _ rc _ _ w KP KH hh
  | true =>
    rw [Bool.true_and]
    unfold headA at hh
    simp only [Bool.and_eq_true, decide_eq_true_eq] at hh
    obtain ⟨⟨⟨⟨⟨h1, h2⟩, h3⟩, h4⟩, h5⟩, h6⟩ := hh
    rw [h2] at KP
    rw [h3] at KH
    by_cases h0 : a.raws = []
    · rw [h0]
      exact gooda_none a.origin pa _ pc a.next a.med a.pref ca _ cc ra rc w KP KH h1 h4 h5 h6
    · obtain ⟨b, off, rfl, hc⟩ := h.raws (List.length_pos_iff.2 h0)
      exact gooda_yes a.origin pa _ pc a.next a.med a.pref ca _ cc b off _ rc a.raws w KP KH h1 h4 h5 h6 rfl (by unfold sizeA at hl; omega) hc
end Go.Proofs.YtclihbfjendllaaDoor
