/- The walk of DecideLoops. -/
import Derived.Test.YtolpaimmmhoiiaaDdP
namespace Go.Proofs.Ytolpaimmmhoiiaa
open Go.RowKit
set_option maxRecDepth 100000

/-- What the law's three words hold behind the first k routes. -/
def Lw (num : Int) (all : List Rt) (k : Nat) (x y s : Bool) : Prop := x = (freeK num all k).any (yOf all fun r => r.stale != 2) ∧ y = (freeK num all k).any (yOf all fun r => decide (r.peer < 0)) ∧ s = !(freeK num all k).isEmpty
theorem Lw.no {num : Int} {all : List Rt} {k : Nat} {x y s : Bool} {r : Rt} (h : Lw num all k x y s) (hr : all[k]? = some r) (hh : hasP r.att.path num = true) : Lw num all (k + 1) x y s := by
  unfold Lw
  rw [freeK_no hr hh]
  exact h
theorem Lw.yes {num : Int} {all : List Rt} {k : Nat} {x y s : Bool} {r : Rt} (h : Lw num all k x y s) (hr : all[k]? = some r) (hh : hasP r.att.path num = false) : Lw num all (k + 1) (x || r.stale != 2) (y || decide (r.peer < 0)) true := by
  unfold Lw
  rw [freeK_yes hr hh, any_snoc, any_snoc, ← h.1, ← h.2.1, yOf_at hr, yOf_at hr]
  exact ⟨rfl, rfl, by simp⟩
theorem steps_lt' {num : Int} {infos : List Inf} {all : List Rt} {n : Nat} (h : bestB num infos all = some n) : n < all.length := freeB_lt (stepsB_sub 9 (bestB_mem h))
set_option maxHeartbeats 6400000 in
theorem decideLoops_walk (num : Int) (ai : Option Addr) (ci : Nat) (infos : List Inf) (al : Option Addr) (cl : Nat) (all : List Rt) (w : World) (hid : ∀ x ∈ infos, x.id < 4294967296) (I : InfsRd w ai infos) (hm : all.length ≤ 1152921504606846976) (hb : ∀ x ∈ all, BigR x) (R : RtsRd w al all) :
    Calls Try.prog 6 #[.int .i64 num, .slice ai infos.length ci, .slice al all.length cl] w fun e w' => e = .returned (.bool true) ∧ Below w.heap.size w w' := by
  have KS := hide (smallD_any al cl all w hm hb R)
  have KA : Hid (∀ W, Calls Try.prog 9 #[] W fun e w' => e = .returned (.bool true) ∧ Below W.heap.size W w') := answersD_any
  obtain ⟨bb, hbb⟩ : ∃ bb, bb = bestB num infos all := ⟨_, rfl⟩
  have HBB := hide hbb
  have KB : Hid (∀ W, Below w.heap.size w W → infos.length ≤ 20 → (all.length < 3000 ∧ ∀ (j : Nat) (r : Rt), all[j]? = some r → FineR r) → Calls Try.prog 10 #[.int .i64 num, .slice ai infos.length ci, .slice al all.length cl] W fun e w' => e = .returned (bestV bb) ∧ Below W.heap.size W w') := fun W h9 hl hf => hbb ▸ pbest_any num ai ci infos al cl all W (by omega) ⟨fitQ_of (by omega) hid hf.2, R.below h9, I.below h9⟩
  have HR := hide R
  clear hbb hid I hm hb R
  obtain ⟨P, hP⟩ : ∃ P, P = (all.length < 3000 ∧ ∀ (j : Nat) (r : Rt), all[j]? = some r → FineR r) := ⟨_, rfl⟩
  rw [← hP] at KS KB
  have HPE := hide hP
  clear hP
  obtain ⟨m, hm⟩ : ∃ m, m = all.length := ⟨_, rfl⟩
  rw [← hm] at KS KB ⊢
  have HM := hide hm
  clear hm
  generalize infos.length = ni at *
  go_enter Try.func6, Try.ntmps6
  go_wp2_with fail
  refine KS.out.mono ?_
  rintro e w1 ⟨⟨z, rfl, hz⟩, b1⟩
  have HZ := hide hz
  have HB1 := hide b1
  clear hz b1 KS
  cases z with
  | false =>
    go_wp2_with fail
    refine (KA.out _).mono ?_
    rintro e w2 ⟨rfl, b2⟩
    have HB2 : Hid (Below w.heap.size w w2) := HB1.out.trans (b2.mono HB1.out.size)
    clear b2
    go_wp2
    go_ret
    exact ⟨rfl, HB2.out⟩
  | true =>
    have HP := hide (HZ.out rfl)
    clear HZ
    have HFN : Hid (m < 3000 ∧ ∀ (j : Nat) (r : Rt), all[j]? = some r → FineR r) := by
      have h := HP.out
      rw [HPE.out, ← HM.out] at h
      exact h
    by_cases hl : ni ≤ 20
    · have f1 : decide (20 < ni) = false := decide_eq_false (by omega)
      have f2 : decide ((20 : Int) < (ni : Int)) = false := decide_eq_false (by omega)
      have hm3 := HFN.out.1
      have KBW := hide (KB.out _ HB1.out hl HP.out)
      clear KB HP HPE
      obtain ⟨n, ok, hv⟩ := bestV_two bb
      rw [hv] at KBW
      have HV := hide hv
      clear hv
      go_wp2_with fail
      refine KBW.out.mono ?_
      rintro e w2 ⟨rfl, b2⟩
      have HB2 : Hid (Below w.heap.size w w2) := HB1.out.trans (b2.mono HB1.out.size)
      clear b2 KBW
      have HRW := hide (HR.out.below HB2.out)
      go_wp2_with fail
      go_loop [9, 10, 11, 12] (fun x y s i => ∃ (k : Nat) (xb yb sb : Bool), k ≤ m ∧ i = .int .i64 k ∧ x = .bool xb ∧ y = .bool yb ∧ s = .bool sb ∧ Hid (Lw num all k xb yb sb)) (fun _ _ _ i => m - (intOf i).toNat)
      case atStart => exact ⟨0, false, false, false, Nat.zero_le _, rfl, rfl, rfl, rfl, ⟨rfl, rfl, rfl⟩⟩
      case round =>
        obtain ⟨k, xb, yb, sb, hk, rfl, rfl, rfl, rfl, HL⟩ := hrel
        have hk0 : (0 : Int) ≤ (k : Int) := Int.natCast_nonneg _
        by_cases hlt : k < m
        · have hkl : k < all.length := by rw [← HM.out]; exact hlt
          obtain ⟨g, o, rfl, hc⟩ := HRW.out (by omega)
          obtain ⟨pa, pc, ca, cc, ra, rc, rt⟩ := hc k _ (List.getElem?_eq_getElem hkl)
          have HG : Hid (all[k]? = some all[k]) := List.getElem?_eq_getElem hkl
          have hfine := (HFN.out.2 k _ HG.out).1
          generalize all[k] = r at *
          have K := hide (rhas_any pa pc num r.att.path w2 (by omega) rt.2.path)
          have c2 : w2.cell? ⟨g, o + k * 11 + 2, none⟩ = some (.int .i64 r.peer) := rt.1 2 _ rfl
          have c4 : w2.cell? ⟨g, o + k * 11 + 4, none⟩ = some (.slice pa r.att.path.length pc) := rt.1 4 _ rfl
          have c10 : w2.cell? ⟨g, o + k * 11 + 10, none⟩ = some (.int .i64 r.stale) := rt.1 10 _ rfl
          have zg := World.block_lt_of_cell? w2 _ c2
          simp only at zg
          clear hc rt hfine
          have hkm : (k : Int) < (m : Int) := by omega
          generalize r.att.path.length = lp at *
          go_wp2_with fail
          refine K.out.mono ?_
          rintro e w3 ⟨rfl, rfl⟩
          clear K
          cases hh : hasP r.att.path num with
          | true =>
            have HL2 := hide (HL.out.no HG.out hh)
            clear hh HL
            go_wp2
            exact ⟨⟨k + 1, xb, yb, sb, by omega, by go_num, rfl, rfl, rfl, HL2⟩, by simp [intOf]; omega⟩
          | false =>
            have HL2 := hide (HL.out.yes HG.out hh)
            clear hh HL
            generalize r.stale = st at *
            generalize r.peer = pe at *
            cases xb with
            | true =>
              cases yb with
              | true =>
                go_wp2
                exact ⟨⟨k + 1, true, true, true, by omega, by go_num, rfl, rfl, rfl, by simpa using HL2⟩, by simp [intOf]; omega⟩
              | false =>
                go_wp2
                exact ⟨⟨k + 1, true, decide (pe < 0), true, by omega, by go_num, rfl, rfl, rfl, by simpa using HL2⟩, by simp [intOf]; omega⟩
            | false =>
              cases yb with
              | true =>
                go_wp2
                exact ⟨⟨k + 1, st != 2, true, true, by omega, by go_num, rfl, rfl, rfl, by simpa using HL2⟩, by simp [intOf]; omega⟩
              | false =>
                go_wp2
                exact ⟨⟨k + 1, st != 2, decide (pe < 0), true, by omega, by go_num, rfl, rfl, rfl, by simpa using HL2⟩, by simp [intOf]; omega⟩
        · have hkm : k = m := by omega
          have hkl : k = all.length := by rw [hkm, HM.out]
          obtain ⟨hx, hy, hs⟩ := HL.out
          rw [hkl, freeK_all] at hx hy hs
          have jlt : decide (k < m) = false := decide_eq_false hlt
          have jlt2 : decide ((k : Int) < (m : Int)) = false := decide_eq_false (by omega)
          cases hbb : bb with
          | none =>
            have hfe : freeB num all = [] := bestB_none.1 (by rw [← HBB.out, hbb])
            rw [hfe] at hx hy hs
            have hxx : xb = false := hx
            have hyy : yb = false := hy
            have hss : sb = false := hs
            have hvv := HV.out
            rw [hbb] at hvv
            injection hvv with hvv
            have hn : n = 0 := by
              have h9 := congrArg (fun a : Array Value => a[0]?) hvv
              simp at h9
              exact h9.symm
            have hok : ok = false := by
              have h9 := congrArg (fun a : Array Value => a[1]?) hvv
              simp at h9
              exact h9
            clear hvv hx hy hs hfe HL HV
            subst hxx hyy hss hn hok
            go_wp2_with fail
            refine (KA.out _).mono ?_
            rintro e w4 ⟨rfl, b4⟩
            have HB4 : Hid (Below w.heap.size w w4) := HB2.out.trans (b4.mono HB2.out.size)
            clear b4
            go_wp2
            go_ret
            exact ⟨rfl, HB4.out⟩
          | some j =>
            have hbj : bestB num infos all = some j := by rw [← HBB.out, hbb]
            have hjl := steps_lt' hbj
            obtain ⟨r, hr, hh⟩ := freeB_at (stepsB_sub 9 (bestB_mem hbj))
            have hss : sb = true := by
              rw [hs]
              cases hfe : freeB num all with
              | nil => rw [bestB_none.2 hfe] at hbj; cases hbj
              | cons a l => rfl
            have HST : Hid (yb = true → r.peer < 0) := fun h => best_static hbj hr (by rw [← hy]; exact h)
            have HFR : Hid (yb = false → xb = true → (r.stale != 2) = true) := fun h1 h2 => best_fresh hbj hr (by rw [← hy]; exact h1) (by rw [← hx]; exact h2)
            have hvv := HV.out
            rw [hbb] at hvv
            injection hvv with hvv
            have hn : n = (j : Int) := by
              have h9 := congrArg (fun a : Array Value => a[0]?) hvv
              simp at h9
              exact h9.symm
            have hok : ok = true := by
              have h9 := congrArg (fun a : Array Value => a[1]?) hvv
              simp at h9
              exact h9
            clear hvv hx hy hs HL HV hbb hbj
            subst hss hn hok
            have hjm : j < m := by rw [HM.out]; exact hjl
            obtain ⟨g, o, rfl, hc⟩ := HRW.out (by omega)
            obtain ⟨pa, pc, ca, cc, ra, rc, rt⟩ := hc j r hr
            have hfine := (HFN.out.2 j _ hr).1
            have RT := hide rt
            clear hc rt hjl hr
            have hj0 : (0 : Int) ≤ (j : Int) := Int.natCast_nonneg _
            have hjm2 : (j : Int) < (m : Int) := by omega
            go_wp2_with fail
            refine (KA.out _).mono ?_
            rintro e w4 ⟨rfl, b4⟩
            have HB4 : Hid (Below w.heap.size w w4) := HB2.out.trans (b4.mono HB2.out.size)
            have RT4 := hide (RT.out.below b4)
            have K := hide (rhas_any pa pc num r.att.path w4 (by omega) RT4.out.2.path)
            rw [hh] at K
            have c2 : w4.cell? ⟨g, o + j * 11 + 2, none⟩ = some (.int .i64 r.peer) := RT4.out.1 2 _ rfl
            have c4 : w4.cell? ⟨g, o + j * 11 + 4, none⟩ = some (.slice pa r.att.path.length pc) := RT4.out.1 4 _ rfl
            have c10 : w4.cell? ⟨g, o + j * 11 + 10, none⟩ = some (.int .i64 r.stale) := RT4.out.1 10 _ rfl
            have zg := World.block_lt_of_cell? w4 _ c2
            simp only at zg
            clear b4 RT RT4 hfine hh
            generalize r.att.path.length = lp at *
            generalize r.stale = st at *
            generalize r.peer = pe at *
            go_wp2_with fail
            refine K.out.mono ?_
            rintro e w5 ⟨rfl, rfl⟩
            clear K
            cases yb with
            | true =>
              have hpe := HST.out rfl
              clear HST HFR
              go_wp2
              go_ret
              exact ⟨rfl, HB4.out⟩
            | false =>
              cases xb with
              | true =>
                have hst := HFR.out rfl rfl
                clear HST HFR
                go_wp2
                go_ret
                exact ⟨rfl, HB4.out⟩
              | false =>
                clear HST HFR
                go_wp2
                go_ret
                exact ⟨rfl, HB4.out⟩
    · have f1 : (20 : Int) < (ni : Int) := by omega
      go_wp2_with fail
      refine (KA.out _).mono ?_
      rintro e w2 ⟨rfl, b2⟩
      have HB2 : Hid (Below w.heap.size w w2) := HB1.out.trans (b2.mono HB1.out.size)
      clear b2
      go_wp2
      go_ret
      exact ⟨rfl, HB2.out⟩
end Go.Proofs.Ytolpaimmmhoiiaa
