/- What is asked of routes by function values; the program's those. -/
import Derived.Test.YtolpaimmmhoiiaaDdB
namespace Go.Proofs.Ytolpaimmmhoiiaa
open Go.RowKit
set_option maxRecDepth 100000

/-- v is a function value (with what is bound to it) that answers so of the route r, wherever that is read. -/
def AsksR (w : World) (v : Value) (r : Rt) (R : Ending → Prop) : Prop := ∃ f bnd caps, v = .func (.func f) bnd caps ∧ (∀ args w, (callFunc f args).run Try.prog w = .ok (.enter f args) w) ∧ ∀ w1 pa pc ca cc ra rc, Below w.heap.size w w1 → AtRd w1 pa ca ra r.att → Calls Try.prog f (bnd.push (.agg (rtC pa pc ca cc ra rc r)) ++ caps) w1 fun e w2 => R e ∧ Below w1.heap.size w1 w2
theorem AsksR.below {w w' : World} {v : Value} {r : Rt} {R : Ending → Prop} (h : AsksR w v r R) (hb : Below w.heap.size w w') : AsksR w' v r R := by
  obtain ⟨f, bnd, caps, e, h1, h2⟩ := h
  exact ⟨f, bnd, caps, e, h1, fun w1 pa pc ca cc ra rc h9 => h2 w1 pa pc ca cc ra rc (hb.trans (h9.mono hb.size))⟩
def BoolRet (b : Bool) (e : Ending) : Prop := e = .returned (.bool b)
section
attribute [local go_sem ↓] keptR_load keptR_store keptR_box keptR_alloc keptR_build keptA_load
set_option maxHeartbeats 1600000 in
theorem those_any (num : Int) (ai : Option Addr) (ni ci : Nat) (al : Option Addr) (cl : Nat) (all : List Rt) (ae : Option Addr) (ce : Nat) (js : List Nat) (v : Value) (y : Nat → Bool) (w : World) (hj : js.length ≤ 3000) (hq : ∀ j ∈ js, j < all.length) (R : RtsRd w al all) (E : IRd w ae (jsI js)) (hy : ∀ (j : Nat) (r : Rt), all[j]? = some r → AsksR w v r (BoolRet (y j))) :
    Calls Try.prog 15 #[.agg #[.int .i64 num, .slice ai ni ci, .slice al all.length cl], .slice ae js.length ce, v] w fun e w' => (∃ s, e = .returned s ∧ OwnJ w' w.heap.size s (js.filter y)) ∧ Below w.heap.size w w' := by
  have HR := hide R
  have HE := hide E
  have HY := hide hy
  have HQ := hide hq
  clear R E hy hq
  obtain ⟨m, hm⟩ : ∃ m, m = all.length := ⟨_, rfl⟩
  rw [← hm]
  have HM := hide hm
  clear hm
  obtain ⟨n, hn⟩ : ∃ n, n = js.length := ⟨_, rfl⟩
  rw [← hn] at hj ⊢
  have HN := hide hn
  clear hn
  go_enter Try.func15, Try.ntmps15
  go_wp2_with fail
  have HB0 : Hid (Below w.heap.size w (w.alloc (.cells #[.int .i64 num, .slice ai ni ci, .slice al m cl] 53))) := (Below.refl _ _).alloc (Nat.le_refl _) _
  have d2 : (w.alloc (.cells #[.int .i64 num, .slice ai ni ci, .slice al m cl] 53)).cell? ⟨w.heap.size, 2, none⟩ = some (.slice al m cl) := by simp [go_sem]
  have z0 : (w.alloc (.cells #[.int .i64 num, .slice ai ni ci, .slice al m cl] 53)).heap.size = w.heap.size + 1 := by simp
  generalize w.alloc (.cells #[.int .i64 num, .slice ai ni ci, .slice al m cl] 53) = w0 at *
  go_loopw [7, 12] (fun s i wq => ∃ k : Nat, k ≤ n ∧ i = .int .i64 k ∧ Hid (OwnJ wq w0.heap.size s ((js.take k).filter y)) ∧ Hid (Below w0.heap.size w0 wq)) (fun _ i _ => n - (intOf i).toNat)
  case atStart => exact ⟨0, Nat.zero_le _, rfl, OwnJ.nil _ _, Below.refl _ _⟩
  case round =>
    obtain ⟨k, hk, rfl, HO, HB⟩ := hrel
    have HBW : Hid (Below w.heap.size w wr) := HB0.out.trans (HB.out.mono HB0.out.size)
    have hk0 : (0 : Int) ≤ (k : Int) := Int.natCast_nonneg _
    by_cases hlt : k < n
    · have hkl : k < js.length := by rw [← HN.out]; exact hlt
      have hg : js[k]? = some js[k] := List.getElem?_eq_getElem hkl
      have hta : js.take (k + 1) = js.take k ++ [js[k]] := by rw [List.take_succ_eq_append_getElem hkl]
      obtain ⟨b, off, rfl, hc⟩ := (HE.out.below HBW.out) (by simp [jsI]; omega)
      have cj : wr.cell? ⟨b, off + k, none⟩ = some (.int .i64 (js[k] : Int)) := hc k _ (jsI_get hg)
      have hjm : js[k] < all.length := HQ.out _ (List.getElem_mem hkl)
      have har : all[js[k]]? = some all[js[k]] := List.getElem?_eq_getElem hjm
      obtain ⟨f, bnd, caps, rfl, ek, hf⟩ := (HY.out _ _ har).below HBW.out
      obtain ⟨g, o, rfl, hcr⟩ := (HR.out.below HBW.out) (by omega)
      obtain ⟨pa, pc, ca, cc, ra, rc, rt⟩ := hcr _ _ har
      have HRT := hide rt
      have K := hide (hf wr pa pc ca cc ra rc (Below.refl _ _) rt.2)
      have HFI : Hid ((js.take (k + 1)).filter y = (js.take k).filter y ++ if y js[k] = true then [js[k]] else []) := by
        show _ = _
        rw [hta, filter_snoc]
      have HTL : Hid (((js.take k).filter y).length ≤ 3000) := by
        show _ ≤ _
        have := List.length_filter_le y (js.take k)
        have := List.length_take_le k js
        have := HN.out
        omega
      rw [← HM.out] at hjm
      generalize hrr : all[js[k]] = r at *
      generalize js[k] = j at *
      have hj0 : (0 : Int) ≤ (j : Int) := Int.natCast_nonneg _
      have hjm2 : (j : Int) < (m : Int) := by omega
      have hkn : (k : Int) < (n : Int) := by omega
      have d2r : wr.cell? ⟨w.heap.size, 2, none⟩ = some (.slice (some ⟨g, o, none⟩) m cl) := by rw [HB.out.cell (p := ⟨w.heap.size, 2, none⟩) (by simp only; omega)]; exact d2
      have zg := World.block_lt_of_cell? wr _ (rt.1 0 _ rfl)
      have zb := World.block_lt_of_cell? wr _ cj
      have zw : w.heap.size < wr.heap.size := World.block_lt_of_cell? wr _ d2r
      simp only at zg zb
      clear hta hg hc hcr rt hf har hrr d2
      go_wp2_with fail
      refine kept_load_intro _ _ _ (by rfl) (run_loadR_at HRT.out) ?_
      go_wp2_with fail
      refine K.out.mono ?_
      rintro e w2 ⟨hbr, b2⟩
      have hbr2 : e = .returned (.bool (y j)) := hbr
      subst hbr2
      have HO2 := hide (HO.out.later b2)
      have HB2 : Hid (Below w0.heap.size w0 w2) := HB.out.trans (b2.mono HB.out.size)
      have HBW2 : Hid (Below w.heap.size w w2) := HBW.out.trans (b2.mono HBW.out.size)
      clear b2 K hbr cj d2r HO HB ek HRT
      cases hyj : y j with
      | true =>
        rw [hyj, if_pos rfl] at HFI
        clear hyj
        obtain ⟨v3, w3, hr3, ho3, hb3⟩ := HO2.out.snoc j HB2.out.size (by have := HTL.out; omega)
        have HR3 := hide hr3
        have HO7 : Hid (OwnJ w3 w0.heap.size v3 ((js.take (k + 1)).filter y)) := by
          show OwnJ _ _ _ _
          rw [HFI.out]
          exact ho3
        have HB7 : Hid (Below w0.heap.size w0 w3) := HB2.out.trans hb3
        clear hr3 ho3 hb3 HFI HO2
        go_wp2_with ((with_reducible refine wpl_append _ _ 45 _ (.slice (some ⟨w2.heap.size, 0, none⟩) 1 1) _ ?_ ?_ HR3.out ?_); (· rfl); (· rfl))
        exact ⟨⟨k + 1, by omega, by go_num, HO7, HB7⟩, by simp [intOf]; omega⟩
      | false =>
        rw [hyj] at HFI
        have HO7 : Hid (OwnJ w2 w0.heap.size u7 ((js.take (k + 1)).filter y)) := by
          show OwnJ _ _ _ _
          rw [HFI.out]
          simpa using HO2.out
        clear hyj HFI HO2
        go_wp2
        exact ⟨⟨k + 1, by omega, by go_num, HO7, HB2⟩, by simp [intOf]; omega⟩
    · have hkn : k = n := by omega
      subst hkn
      have htt : js.take k = js := by rw [HN.out]; exact List.take_length
      rw [htt] at HO
      clear htt
      go_wp2
      go_ret
      exact ⟨⟨_, rfl, own_base HO.out HB0.out.size⟩, HBW.out⟩
end
end Go.Proofs.Ytolpaimmmhoiiaa
