/- ExportGone's walk. -/
import Derived.Test.YtclihbfjendllaaDoorExU
import Derived.Test.YtclihbfjendllaaDoorKBc
namespace Go.Proofs.YtclihbfjendllaaDoor
open Go.RowKit
set_option maxRecDepth 100000

theorem run_buildTp (A : Nat) (L : Int) (w : World) : (Instr.build 54 #[(0, .agg #[.int .u32 (A : Int), .int .i64 L])]).run Tryd.prog w = .ok (.agg (tlC ⟨A, L, zA⟩)) w := by kernel_rfl
theorem run_bsTt (A : Nat) (L : Int) (w : World) : (Instr.buildSlice 48 1 #[(0, .agg (tlC ⟨A, L, zA⟩))]).run Tryd.prog w = .ok (.slice (some ⟨w.heap.size, 0, none⟩) 1 1) (w.alloc (.cells (tlC ⟨A, L, zA⟩) 54)) := by kernel_rfl
theorem elemTl : Elem 48 54 9 120 := ⟨Tryd.underlying48, ⟨_, _, rfl, rfl, rfl, rfl, rfl⟩, by decide, by decide⟩
/-- The cells of what is told. -/
def tcs (l : List Tl) : List Value := (l.map fun t => (tlC t).toList).flatten
theorem tcs_snoc (l : List Tl) (t : Tl) : tcs (l ++ [t]) = tcs l ++ (tlC t).toList := by simp [tcs]
/-- What is told, as it grows. -/
def TlOwn (w : World) (N : Nat) (v : Value) (l : List Tl) : Prop := w.ownsRow N 54 9 v l.length (tcs l)
theorem tl_more {w : World} {N : Nat} {v : Value} {l : List Tl} (h : TlOwn w N v l) (hN : N ≤ w.heap.size) (t : Tl) (ht : AC t.C) (hl : l.length ≤ 100000) :
    ∃ a c w', (Builtin.append_ #[48, 48] 48 #[v, .slice (some ⟨w.heap.size, 0, none⟩) 1 1]).run Tryd.prog (w.alloc (.cells (tlC t) 54)) = .ok (.slice a (l.length + 1) c) w' ∧ TlOwn w' N (.slice a (l.length + 1) c) (l ++ [t]) ∧ Below N w w' := by
  have h9 := tlC_ok ht
  obtain ⟨v', w', hr, hrow, hbel, _, _⟩ := app_more elemTl (h.alloc (.cells (tlC t) 54)) (by simp; omega) ⟨w.heap.size, 0, none⟩ 1 1 (tlC t).toList (by simpa using h9.1) (fun j x hx => by
    rw [Addr.add_mid, Nat.zero_add]
    exact (Bk.new 54 w (tlC t)).cell j (by rw [← Array.getElem?_toList]; exact hx)) (fun u hu => Array.all_eq_true'.1 h9.2 u (by simpa using hu)) (by omega)
  obtain ⟨a, c, rfl⟩ := own_shape hrow
  refine ⟨a, c, w', hr, ?_, ((Below.refl _ _).alloc hN _).trans hbel⟩
  unfold TlOwn
  rw [tcs_snoc, List.length_append, List.length_singleton]
  exact hrow
theorem tcs_flat : ∀ (l : List Tl) (i j : Nat) (t : Tl) (v : Value), (∀ x ∈ l, AC x.C) → l[i]? = some t → (tlC t)[j]? = some v → (tcs l)[i * 9 + j]? = some v := fun l i j t v h hi hv => by
  have hj : j < 9 := by
    have h1 := (Array.getElem?_eq_some_iff.1 hv).1
    have h2 := (tlC_ok (h t (List.mem_of_getElem? hi))).1
    omega
  unfold tcs
  rw [flat9 (l.map fun t => (tlC t).toList) i j (tlC t).toList (fun x hx => by
    obtain ⟨y, hy, rfl⟩ := List.mem_map.1 hx
    simpa using (tlC_ok (h y hy)).1) (by rw [List.getElem?_map, hi]; rfl) hj, Array.getElem?_toList]
  exact hv
theorem TlOwn.rd {w : World} {N : Nat} {v : Value} {l : List Tl} (h : TlOwn w N v l) (hC : ∀ x ∈ l, AC x.C) : ∃ a c, v = .slice a l.length c ∧ TlsRd w a l := by
  obtain ⟨a, c, rfl⟩ := own_shape h
  refine ⟨a, c, rfl, fun hp => ?_, hC⟩
  obtain ⟨g, cap, e, _, _⟩ := World.ownsRow.form h hp
  injection e with e1 e2 e3
  subst e1 e3
  refine ⟨g, 0, rfl, fun i t hi j v hv => ?_⟩
  have hil := (List.getElem?_eq_some_iff.1 hi).1
  have hj : j < 9 := by
    have h1 := (Array.getElem?_eq_some_iff.1 hv).1
    have h2 := (tlC_ok (hC t (List.mem_of_getElem? hi))).1
    omega
  rw [Nat.zero_add]
  have := World.ownsRow.cellAt h (i * 9 + j) (by omega)
  rw [this]
  exact tcs_flat l i j t v hC hi hv
section
attribute [local go_sem ↓] keptT_build keptT_bs Go.wp_at_zero Go.wp_at_succ
set_option maxHeartbeats 6400000 in
theorem exportGone_walk (n : Nat) (w : World) (hS : Said w) :
    Calls Tryd.prog 6 #[.int .u16 (n : Int)] w fun e w' => e = .returned (.bool true) ∧ Below w.heap.size w w' := by
  obtain ⟨k, hk⟩ : ∃ k, k = n % 450 := ⟨_, rfl⟩
  have hkl : k < 450 := by omega
  have e1 : (n : Int) % 450 = (k : Int) := by omega
  clear hk
  have HANS := hide (fun (w1 : World) (hb : Below w.heap.size w w1) => answers_any w1 (hS.below hb))
  clear hS
  go_enter Tryd.func6, Tryd.ntmps6
  go_wp2_with fail
  simp only [e1]
  clear e1
  have HL0 : Hid (TlOwn w w.heap.size (.slice none 0 0) (gOld 0)) := own_nil _ _ _ _
  have HB0 : Hid (Below w.heap.size w w) := Below.refl _ _
  go_loopw [4, 5] (fun v i wq => ∃ m : Nat, m ≤ k ∧ i = .int .i64 m ∧ Hid (TlOwn wq w.heap.size v (gOld m)) ∧ Hid (Below w.heap.size w wq)) (fun _ i _ => k - (intOf i).toNat)
  case atStart => exact ⟨0, Nat.zero_le _, rfl, HL0, HB0⟩
  case round =>
    obtain ⟨m, hm, rfl, HT, HB⟩ := hrel
    clear HL0 HB0
    by_cases hlt : m < k
    · have hm0 : (0 : Int) ≤ (m : Int) := Int.natCast_nonneg _
      have hm1 : (m : Int) < (k : Int) := by omega
      obtain ⟨a, c, w2, hr2, ht2, hb2⟩ := tl_more HT.out HB.out.size (gTl m) AC.zero (by rw [gOld_length]; omega)
      rw [gOld_length] at hr2 ht2
      rw [← gOld_succ] at ht2
      have HR2 := hide hr2
      have HT2 := hide ht2
      have HB2 : Hid (Below w.heap.size w w2) := HB.out.trans hb2
      clear hr2 ht2 hb2
      go_wp2_with fail
      refine kept_build1_intro _ _ _ _ (by rfl) (run_buildTp (m * 256) 24 wr) ?_
      go_wp2_with fail
      refine kept_exec (exec_bs1 _ _ _ (by rfl) (run_bsTt (m * 256) 24 wr)) ?_
      go_wp2_with ((with_reducible refine wpl_append _ _ 48 _ (.slice (some ⟨wr.heap.size, 0, none⟩) 1 1) _ ?_ ?_ HR2.out ?_); (· rfl); (· rfl))
      exact ⟨⟨m + 1, by omega, by go_num, HT2, HB2⟩, by simp [intOf]; omega⟩
    · obtain rfl : m = k := by omega
      clear hlt
      obtain ⟨a, c, e, hrd⟩ := HT.out.rd (fun x hx => by
        obtain ⟨y, _, rfl⟩ := List.mem_map.1 hx
        exact AC.zero)
      rw [gOld_length] at e
      subst e
      have HD := hide (delta_any a none c 0 (gOld m) [] (fun _ => noAt) wr (by rw [gOld_length]; omega) (Nat.zero_le _) hrd ⟨fun h => absurd h (Nat.lt_irrefl 0), fun t ht => by cases ht⟩ (fun t ht => by
        obtain ⟨y, _, rfl⟩ := List.mem_map.1 ht
        exact ⟨none, 0, none, 0, none, 0, rfl, atrd_nil wr 0 0 0 0 (by decide), by show 0 ≤ 100000; omega⟩) (fun t ht => by cases ht))
      rw [gone_all, gOld_length] at HD
      have HPL : Hid ((hunds (gPx m)).length = (m + 99) / 100) := by have := hunds_count (gPx m); rwa [gPx_length] at this
      have HPO : Hid (offH (hunds (gPx m)) (hunds (gPx m)).length = m) := by have := offH_all (gPx m); rwa [gPx_length] at this
      have HPF : Hid ((hunds (gPx m)).flatten = gPx m) := hunds_flat _
      have HPP := hide (hunds_part (gPx m))
      have HPE : Hid (∀ i, offH (hunds (gPx m)) i ≤ m) := fun i => by have := offH_le (gPx m) i; rwa [gPx_length] at this
      generalize hunds (gPx m) = ps at *
      clear hrd HT
      go_wp2_with fail
      refine HD.out.mono ?_
      rintro e w3 ⟨v, rfl, hd3, hb3⟩
      have HD3 := hide hd3
      have HB3 : Hid (Below w.heap.size w w3) := HB.out.trans (hb3.mono HB.out.size)
      obtain ⟨av, cv, rfl⟩ := hd3.slice
      clear hd3 hb3 HD HB
      rw [List.length_map] at HD3 ⊢
      obtain ⟨Ln, hLn⟩ : ∃ Ln, Ln = ps.length := ⟨_, rfl⟩
      have HLn := hide hLn
      rw [← hLn] at HPL HPO ⊢
      have hL6 : Ln ≤ 6 := by have := HPL.out; omega
      clear hLn
      go_wp2_with fail
      have HO0 : Hid (0 = offH ps 0) := rfl
      go_loop [7, 8] (fun t i => ∃ q y : Nat, q ≤ Ln ∧ i = .int .i64 q ∧ t = .int .i64 (y : Int) ∧ Hid (y = offH ps q)) (fun _ i => Ln - (intOf i).toNat)
      case atStart => exact ⟨0, 0, Nat.zero_le _, rfl, rfl, HO0⟩
      case round =>
        obtain ⟨q, y, hq, rfl, rfl, HY⟩ := hrel
        clear HO0
        by_cases hlq : q < Ln
        · have hql : q < ps.length := by rw [← HLn.out]; exact hlq
          obtain ⟨c, hc⟩ : ∃ c, ps[q]? = some c := ⟨ps[q], List.getElem?_eq_getElem hql⟩
          obtain ⟨g, cap, e, hcell⟩ := HD3.out.cells (by rw [List.length_map]; omega)
          injection e with e2 e3 e4
          subst e2
          obtain ⟨cc, ⟨gv, nv, pa, pc, ca, cc9, ra, rc, rfl, hgv, hnv, _⟩, hx⟩ := hcell q (goneU c) (by rw [List.getElem?_map, hc]; rfl)
          obtain ⟨ga, gc, rfl⟩ := own_shape hgv
          obtain ⟨na, nc, rfl⟩ := own_shape hnv
          have k0 : w3.cell? ⟨g, q * 9, none⟩ = some (.slice ga c.length gc) := hx 0 _ rfl
          have k8 : w3.cell? ⟨g, q * 9 + 8, none⟩ = some (.slice na 0 nc) := hx 8 _ rfl
          have hpart := HPP.out q c hc
          have HOS : Hid (offH ps (q + 1) = offH ps q + c.length) := offH_succ ps q c hc
          have HYL : Hid (offH ps q + c.length ≤ m) := by have := HPE.out (q + 1); rw [HOS.out] at this; exact this
          have HGC : Hid (∀ r, r < c.length → ∃ gg, ga = some ⟨gg, 0, none⟩ ∧ w3.cell? ⟨gg, r * 2, none⟩ = some (.int .u32 (((y + r : Nat) : Int) * 256))) := fun r hr => by
            obtain ⟨gg, cap2, e5, _, _⟩ := World.ownsRow.form hgv (show 0 < c.length by omega)
            injection e5 with e6 e7 e8
            subst e6 e8
            refine ⟨gg, rfl, ?_⟩
            have h1 := World.ownsRow.cellAt hgv (r * 2) (by show r * 2 < c.length * 2; omega)
            have h2 := offH_get ps q r c hc hr
            rw [HPF.out, gPx_get m _ (by have := HYL.out; omega)] at h2
            rw [h1, show pcs (goneU c).gone = pcs c from rfl, pcs_at c r _ h2.symm, ← HY.out]
            rfl
          have hq0 : (0 : Int) ≤ (q : Int) := Int.natCast_nonneg _
          have hq1 : (q : Int) < (Ln : Int) := by omega
          obtain ⟨lc, hlc⟩ : ∃ lc, lc = c.length := ⟨_, rfl⟩
          rw [← hlc] at k0 hpart HOS HYL HGC
          rw [← HLn.out] at hpart
          have hlc100 : lc ≤ 100 := hpart.1
          have hym : y + lc ≤ m := by have := HYL.out; have := HY.out; omega
          have HYN : Hid (y + lc = offH ps (q + 1)) := by show _ = _; rw [HOS.out, HY.out]
          clear hx hcell e3 e4 hgv hnv hlc HY HOS HYL
          have HPT := hide hpart.2
          clear hpart
          go_upto_region 12 with fail
          go_cut [56] (fun v wq => v = .bool false ∧ wq = w3)
          case first =>
            cases hd : decide ((q : Int) < (Ln : Int) - 1) with
            | false =>
              go_wp2_with fail
              go_meet
              case rel => exact ⟨rfl, rfl⟩
            | true =>
              have hd2 : (q : Int) < (Ln : Int) - 1 := of_decide_eq_true hd
              have e100 : lc = 100 := HPT.out (by omega)
              subst e100
              go_wp2_with fail
              go_meet
              case rel => exact ⟨rfl, rfl⟩
          case rest =>
            obtain ⟨rfl, rfl⟩ := hcut
            go_wp2_with fail
            have HR0 : Hid (y = y + 0) := rfl
            go_loop [7, 9] (fun t j => ∃ r z : Nat, r ≤ lc ∧ j = .int .i64 r ∧ t = .int .i64 (z : Int) ∧ Hid (z = y + r)) (fun _ j => lc - (intOf j).toNat)
            case atStart => exact ⟨0, y, Nat.zero_le _, rfl, rfl, HR0⟩
            case round =>
              obtain ⟨r, z, hr, rfl, rfl, HZ⟩ := hrel
              clear HR0
              by_cases hlr : r < lc
              · obtain ⟨gg, e7, k9⟩ := HGC.out r hlr
                subst e7
                rw [← HZ.out] at k9
                have hr0 : (0 : Int) ≤ (r : Int) := Int.natCast_nonneg _
                have hr1 : (r : Int) < (lc : Int) := by omega
                have hz9 : z < 450 := by have := HZ.out; omega
                have HZ2 : Hid (z + 1 = y + (r + 1)) := by have := HZ.out; show _ = _; omega
                go_wp2_with fail
                exact ⟨⟨r + 1, z + 1, by omega, by go_num, by go_num, HZ2⟩, by simp [intOf]; omega⟩
              · obtain rfl : r = lc := by omega
                have HZ3 : Hid (z = offH ps (q + 1)) := by show _ = _; rw [HZ.out, HYN.out]
                go_wp2_with fail
                exact ⟨⟨q + 1, z, by omega, by go_num, rfl, HZ3⟩, by simp [intOf]; omega⟩
        · obtain rfl : q = Ln := by omega
          have hy : y = m := by rw [HY.out, HPO.out]
          subst hy
          have e3 : ((y : Int) + 99) / 100 = (q : Int) := by have := HPL.out; omega
          go_wp2_with fail
          refine (HANS.out _ HB3.out).mono ?_
          rintro e w5 ⟨rfl, b5⟩
          have HB5 : Hid (Below w.heap.size w w5) := HB3.out.trans (b5.mono HB3.out.size)
          go_wp2_with fail
          go_ret
          exact ⟨rfl, HB5.out⟩
end
end Go.Proofs.YtclihbfjendllaaDoor
