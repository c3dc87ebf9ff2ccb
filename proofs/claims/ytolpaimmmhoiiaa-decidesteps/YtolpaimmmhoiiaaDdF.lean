/- The program's least and greatest. -/
import Derived.Test.YtolpaimmmhoiiaaHDe
import Derived.BigQuiet
namespace Go.Proofs.Ytolpaimmmhoiiaa
open Go.RowKit
set_option maxRecDepth 100000

section
attribute [local go_sem ↓] keptR_load keptR_store keptR_box keptR_alloc keptR_build keptA_load
set_option maxHeartbeats 3200000 in
theorem least1_any (al : Option Addr) (cl : Nat) (all : List Rt) (ae : Option Addr) (ce : Nat) (js : List Nat) (v : Value) (fw : Nat → Int) (X Y : Nat) (w : World) (hj : js.length ≤ 3000) (hq : ∀ j ∈ js, j < all.length) (R : RtsRd w al all) (E : IRd w ae (jsI js)) (hy : ∀ (j : Nat) (r : Rt), all[j]? = some r → AsksR w v r (fun e => FlRet e (fw j)))
    (x2 : w.cell? ⟨X, 2, none⟩ = some (.slice al all.length cl)) (y0 : w.cell? ⟨Y, 0, none⟩ = some v) :
    Calls Try.prog 44 #[.slice ae js.length ce, .pointer (some ⟨Y, 0, none⟩), .pointer (some ⟨X, 0, none⟩)] w fun e w' => (∃ a2 c2, e = .returned (.slice a2 (leastL fw js).length c2) ∧ IRd w' a2 (jsI (leastL fw js))) ∧ Below w.heap.size w w' := by
  have HR := hide R
  have HE := hide E
  have HY := hide hy
  have HQ := hide hq
  have zX := World.block_lt_of_cell? w _ x2
  have zY := World.block_lt_of_cell? w _ y0
  simp only at zX zY
  clear R E hy hq
  obtain ⟨m, hm⟩ : ∃ m, m = all.length := ⟨_, rfl⟩
  rw [← hm] at x2
  have HM := hide hm
  clear hm
  obtain ⟨n, hn⟩ : ∃ n, n = js.length := ⟨_, rfl⟩
  rw [← hn] at hj ⊢
  have HN := hide hn
  clear hn
  have HLL : Hid (leastL fw js = (minF fw js).1) := (minF_all fw js).symm
  obtain ⟨st, hst⟩ : ∃ st, st = leastL fw js := ⟨_, rfl⟩
  rw [← hst]
  have HS := hide hst
  clear hst
  go_enter Try.func44, Try.ntmps44
  go_wp2_with fail
  go_loopw [5, 6, 12] (fun s lo i wq => ∃ k b : Nat, k ≤ n ∧ i = .int .i64 k ∧ lo = .float .f64 b ∧ Hid (OwnJ wq w.heap.size s (minF fw (js.take k)).1) ∧ Hid (FlIs b (minF fw (js.take k)).2) ∧ Hid (Below w.heap.size w wq)) (fun _ _ i _ => n - (intOf i).toNat)
  case atStart => exact ⟨0, 0, Nat.zero_le _, rfl, rfl, OwnJ.nil _ _, FlIs.zero, Below.refl _ _⟩
  case round =>
    obtain ⟨k, lo, hk, rfl, rfl, HO, HF, HB⟩ := hrel
    have hk0 : (0 : Int) ≤ (k : Int) := Int.natCast_nonneg _
    by_cases hlt : k < n
    · have hkl : k < js.length := by rw [← HN.out]; exact hlt
      have hg : js[k]? = some js[k] := List.getElem?_eq_getElem hkl
      have hta : js.take (k + 1) = js.take k ++ [js[k]] := by rw [List.take_succ_eq_append_getElem hkl]
      obtain ⟨b, off, rfl, hc⟩ := (HE.out.below HB.out) (by simp [jsI]; omega)
      have cj : wr.cell? ⟨b, off + k, none⟩ = some (.int .i64 (js[k] : Int)) := hc k _ (jsI_get hg)
      have hjm : js[k] < all.length := HQ.out _ (List.getElem_mem hkl)
      have har : all[js[k]]? = some all[js[k]] := List.getElem?_eq_getElem hjm
      obtain ⟨f, bnd, caps, rfl, ek, hf⟩ := (HY.out _ _ har).below HB.out
      obtain ⟨g, o, rfl, hcr⟩ := (HR.out.below HB.out) (by omega)
      obtain ⟨pa, pc, ca, cc, ra, rc, rt⟩ := hcr _ _ har
      have HRT := hide rt
      have K := hide (fun W hb => hf W pa pc ca cc ra rc hb (rt.2.below hb))
      have HMS : Hid (minF fw (js.take (k + 1)) = minS fw (minF fw (js.take k)) js[k]) := by
        show _ = _
        rw [hta, minF_snoc]
      have HTL : Hid ((minF fw (js.take k)).1.length ≤ 3000) := by
        show _ ≤ _
        have := minF_length fw (js.take k)
        have := List.length_take_le k js
        have := HN.out
        omega
      have hz := minF_nil (f := fw) (js := js) (k := k) (by omega)
      rw [← HM.out] at hjm
      obtain ⟨sm1, hsm1⟩ : ∃ sm1, sm1 = minF fw (js.take (k + 1)) := ⟨_, rfl⟩
      rw [← hsm1] at HMS
      have HSM := hide hsm1
      clear hsm1
      generalize minF fw (js.take k) = sm at *
      generalize hrr : all[js[k]] = r at *
      generalize js[k] = j at *
      have hj0 : (0 : Int) ≤ (j : Int) := Int.natCast_nonneg _
      have hjm2 : (j : Int) < (m : Int) := by omega
      have hkn : (k : Int) < (n : Int) := by omega
      have x2r : wr.cell? ⟨X, 2, none⟩ = some (.slice (some ⟨g, o, none⟩) m cl) := by rw [HB.out.cell (p := ⟨X, 2, none⟩) zX]; exact x2
      have y0r : wr.cell? ⟨Y, 0, none⟩ = some (.func (.func f) bnd caps) := by rw [HB.out.cell (p := ⟨Y, 0, none⟩) zY]; exact y0
      have zg := World.block_lt_of_cell? wr _ (rt.1 0 _ rfl)
      have zb := World.block_lt_of_cell? wr _ cj
      have zX2 := World.block_lt_of_cell? wr _ x2r
      have zY2 := World.block_lt_of_cell? wr _ y0r
      simp only at zg zb zX2 zY2
      obtain ⟨a5, c5, rfl, rd5⟩ := HO.out.rd
      obtain ⟨l5, hl5⟩ : ∃ l5, l5 = sm.1.length := ⟨_, rfl⟩
      rw [← hl5] at hz HTL HO ⊢
      have HL5 := hide hl5
      have HZ := hide hz
      clear hta hg hc hcr rt hf har hrr x2 y0 rd5 hl5 hz
      go_wp2_with fail
      refine region_mix (fun w' => Below wr.heap.size wr w') (fun k => k == 6) (by kernel_rfl) (by kernel_rfl) (by kernel_rfl) (Below.refl _ _).drew ?_
      refine mix_q (by rfl) (by rfl) (fun w9 h9 => (by have Y0' := y0r; rw [← h9.cell (p := ⟨Y, 0, none⟩) zY2] at Y0'; go_simp; first | done | rfl)) (by go_simp; first | done | rfl) ?_
      refine mix_q (by rfl) (by rfl) (fun w9 h9 => (by go_simp; first | done | rfl)) (by go_simp; first | done | rfl) ?_
      refine mix_q (by rfl) (by rfl) (fun w9 h9 => (by have X2' := x2r; rw [← h9.cell (p := ⟨X, 2, none⟩) zX2] at X2'; go_simp; first | done | rfl)) (by go_simp; first | done | rfl) ?_
      repeat refine mix_q (by rfl) (by rfl) (fun w9 h9 => (by go_simp; first | done | rfl)) (by go_simp; first | done | rfl) ?_
      refine mix_q (by rfl) (by rfl) (fun w9 h9 => exec_loadR_at (by rfl) (HRT.out.below h9)) (by go_simp; first | done | rfl) ?_
      refine mix_l (by rfl) (by rfl) (by rfl) ?_
      go_simp
      refine (K.out _ (Below.refl _ _).drew).mono ?_
      rintro e w2 ⟨⟨bw, rfl, hbw⟩, b2⟩
      have hb5 : Below wr.heap.size wr w2 := (Below.refl _ _).drew.trans (b2.mono (by simp))
      refine ⟨hb5, ?_⟩
      have HO2 := hide (HO.out.later hb5)
      have HB2 : Hid (Below w.heap.size w w2) := HB.out.trans (hb5.mono HB.out.size)
      have HBW := hide hbw
      have fee : (FloatKind.f64.format.order bw bw == some Ordering.eq) = true := by rw [float_eq hbw hbw]; simp
      have HLT := hide (float_lt hbw HF.out)
      have HEQ := hide (float_eq hbw HF.out)
      clear b2 hb5 hbw K cj x2r y0r HO HB ek HRT zY2 zX2 zb zg
      repeat refine mix_q (by rfl) (by rfl) (fun w9 h9 => (by go_simp; first | done | rfl)) (by go_simp; first | done | rfl) ?_
      refine ⟨fun _ h => (by cases h), ?_⟩
      obtain ⟨v0, w0, hr0, ho0, hb0⟩ := (OwnJ.nil w2 w.heap.size).snoc j HB2.out.size (by simp)
      by_cases h1 : l5 = 0 ∨ fw j < sm.2
      · have HM1 : Hid (sm1 = ([j], fw j)) := by
          show sm1 = _
          rw [HMS.out]
          unfold minS
          rw [if_pos]
          rcases h1 with h1 | h1
          · exact Or.inl (List.length_eq_zero_iff.1 (by rw [← HL5.out]; exact h1))
          · exact Or.inr h1
        have HR0 := hide hr0
        have HO0 : Hid (OwnJ w0 w.heap.size v0 sm1.1) := by
          show OwnJ _ _ _ _
          rw [HM1.out]
          exact ho0
        have HF0 : Hid (FlIs bw sm1.2) := by
          show FlIs _ _
          rw [HM1.out]
          exact HBW.out
        have HB0 : Hid (Below w.heap.size w w0) := HB2.out.trans hb0
        clear hr0 ho0 hb0 HF HM1 HMS
        by_cases h2 : l5 = 0
        · subst h2
          clear h1 HLT HEQ
          go_wp2_with ((with_reducible refine wpl_append _ _ 45 _ (.slice (some ⟨w2.heap.size, 0, none⟩) 1 1) _ ?_ ?_ HR0.out ?_); (· rfl); (· rfl))
          exact ⟨⟨k + 1, bw, by omega, by go_num, rfl, by rw [← HSM.out]; exact HO0, by rw [← HSM.out]; exact HF0, HB0⟩, by simp [intOf]; omega⟩
        · have h3 : fw j < sm.2 := by rcases h1 with h1 | h1; exact absurd h1 h2; exact h1
          have flt : (FloatKind.f64.format.order bw lo == some Ordering.lt) = true := by rw [HLT.out]; exact decide_eq_true h3
          have f5 : ((l5 : Int) == 0) = false := by simp; omega
          clear h1 HLT HEQ h3 h2
          go_wp2_with ((with_reducible refine wpl_append _ _ 45 _ (.slice (some ⟨w2.heap.size, 0, none⟩) 1 1) _ ?_ ?_ HR0.out ?_); (· rfl); (· rfl))
          exact ⟨⟨k + 1, bw, by omega, by go_num, rfl, by rw [← HSM.out]; exact HO0, by rw [← HSM.out]; exact HF0, HB0⟩, by simp [intOf]; omega⟩
      · have h2 : ¬ l5 = 0 := fun h => h1 (Or.inl h)
        have h3 : ¬ fw j < sm.2 := fun h => h1 (Or.inr h)
        have flt : (FloatKind.f64.format.order bw lo == some Ordering.lt) = false := by rw [HLT.out]; exact decide_eq_false h3
        have f5 : ((l5 : Int) == 0) = false := by simp; omega
        have hne : ¬ (sm.1 = [] ∨ fw j < sm.2) := by
          intro h
          rcases h with h | h
          · rw [h] at HL5
            exact h2 HL5.out
          · exact h3 h
        clear hr0 ho0 hb0 h1
        by_cases h4 : fw j = sm.2
        · have HM1 : Hid (sm1 = (sm.1 ++ [j], sm.2)) := by
            show sm1 = _
            rw [HMS.out]
            unfold minS
            rw [if_neg hne, if_pos h4]
          have feq : (FloatKind.f64.format.order bw lo == some Ordering.eq) = true := by rw [HEQ.out]; exact decide_eq_true h4
          obtain ⟨v3, w3, hr3, ho3, hb3⟩ := HO2.out.snoc j HB2.out.size (by have := HTL.out; have := HL5.out; omega)
          have HR3 := hide hr3
          have HO0 : Hid (OwnJ w3 w.heap.size v3 sm1.1) := by
            show OwnJ _ _ _ _
            rw [HM1.out]
            exact ho3
          have HF0 : Hid (FlIs lo sm1.2) := by
            show FlIs _ _
            rw [HM1.out]
            exact HF.out
          have HB0 : Hid (Below w.heap.size w w3) := HB2.out.trans hb3
          clear hr3 ho3 hb3 HF HM1 HMS HLT HEQ h3 h2 hne h4 fee HO2
          go_wp2_with ((with_reducible refine wpl_append _ _ 45 _ (.slice (some ⟨w2.heap.size, 0, none⟩) 1 1) _ ?_ ?_ HR3.out ?_); (· rfl); (· rfl))
          exact ⟨⟨k + 1, lo, by omega, by go_num, rfl, by rw [← HSM.out]; exact HO0, by rw [← HSM.out]; exact HF0, HB0⟩, by simp [intOf]; omega⟩
        · have HM1 : Hid (sm1 = sm) := by
            show sm1 = _
            rw [HMS.out]
            unfold minS
            rw [if_neg hne, if_neg h4]
          have feq : (FloatKind.f64.format.order bw lo == some Ordering.eq) = false := by rw [HEQ.out]; exact decide_eq_false h4
          have HO0 : Hid (OwnJ w2 w.heap.size (.slice a5 l5 c5) sm1.1) := by
            show OwnJ _ _ _ _
            rw [HM1.out]
            exact HO2.out
          have HF0 : Hid (FlIs lo sm1.2) := by
            show FlIs _ _
            rw [HM1.out]
            exact HF.out
          clear HF HM1 HMS HLT HEQ h3 h2 hne h4 fee HO2
          go_wp2
          exact ⟨⟨k + 1, lo, by omega, by go_num, rfl, by rw [← HSM.out]; exact HO0, by rw [← HSM.out]; exact HF0, HB2⟩, by simp [intOf]; omega⟩
    · have hkn : k = n := by omega
      subst hkn
      have htt : js.take k = js := by rw [HN.out]; exact List.take_length
      rw [htt] at HO
      rw [htt] at HF
      clear htt
      obtain ⟨a, c, rfl, rd⟩ := HO.out.rd
      have RD := hide rd
      clear rd HO HF
      go_wp2
      go_ret
      exact ⟨⟨_, _, by rw [HS.out, HLL.out]; rfl, by rw [HS.out, HLL.out]; exact RD.out⟩, HB.out⟩
set_option maxHeartbeats 800000 in
theorem least_any (num : Int) (ai : Option Addr) (ni ci : Nat) (al : Option Addr) (cl : Nat) (all : List Rt) (fv : Nat) (bnd caps : Array Value) (fw : Nat → Int) (w : World) (R : RtsRd w al all) (hy : ∀ (j : Nat) (r : Rt), all[j]? = some r → AsksR w (.func (.func fv) bnd caps) r (fun e => FlRet e (fw j))) :
    Calls Try.prog 26 #[.agg #[.int .i64 num, .slice ai ni ci, .slice al all.length cl], .func (.func fv) bnd caps] w fun e w' => (∃ v, e = .returned v ∧ AsksJ w' v all.length (leastL fw)) ∧ Below w.heap.size w w' := by
  have HK : Hid (∀ (X Y : Nat) (W : World), Below w.heap.size w W → W.cell? ⟨X, 2, none⟩ = some (.slice al all.length cl) → W.cell? ⟨Y, 0, none⟩ = some (.func (.func fv) bnd caps) → AsksJ W (.func (.func 44) #[] #[.pointer (some ⟨Y, 0, none⟩), .pointer (some ⟨X, 0, none⟩)]) all.length (leastL fw)) := fun X Y W hb x2 y0 => by
    have zX := World.block_lt_of_cell? W _ x2
    have zY := World.block_lt_of_cell? W _ y0
    refine ⟨_, _, _, rfl, Try.call44, fun w1 ae ce js h9 hr hq hl => ?_⟩
    have hb9 := hb.trans (h9.mono hb.size)
    have := least1_any al cl all ae ce js (.func (.func fv) bnd caps) fw X Y w1 hl hq (R.below hb9) hr (fun j r h => (hy j r h).below hb9) (by rw [h9.cell (p := ⟨X, 2, none⟩) zX]; exact x2) (by rw [h9.cell (p := ⟨Y, 0, none⟩) zY]; exact y0)
    exact this
  clear R hy
  generalize all.length = m at *
  go_enter Try.func26, Try.ntmps26
  go_wp2
  go_ret
  have hb : Below w.heap.size w ((w.alloc (.cells #[.int .i64 num, .slice ai ni ci, .slice al m cl] 53)).alloc (.cells #[.func (.func fv) bnd caps] 76)) := ((Below.refl _ _).alloc (Nat.le_refl _) _).alloc (by simp) _
  exact ⟨⟨_, rfl, HK.out _ _ _ hb (by simp [go_sem]) (by simp [go_sem])⟩, hb⟩
theorem unary_negf (k : FloatKind) (b : Nat) : Op.unary .neg (.float k b) = pure (.float k (Op.negFloat k b)) := rfl
attribute [local go_sem] unary_negf
set_option maxHeartbeats 800000 in
theorem great1_any (pa : Option Addr) (pc : Nat) (ca : Option Addr) (cc : Nat) (ra : Option Addr) (rc : Nat) (r : Rt) (v : Value) (n : Int) (Y : Nat) (w : World) (h : AtRd w pa ca ra r.att) (hy : AsksR w v r (fun e => FlRet e n)) (y0 : w.cell? ⟨Y, 0, none⟩ = some v) :
    Calls Try.prog 42 #[.agg (rtC pa pc ca cc ra rc r), .pointer (some ⟨Y, 0, none⟩)] w fun e w' => FlRet e (-n) ∧ Below w.heap.size w w' := by
  obtain ⟨f, bnd, caps, rfl, ek, hf⟩ := hy
  have zY := World.block_lt_of_cell? w _ y0
  simp only at zY
  have HK : Hid (∀ W, Below w.heap.size w W → Calls Try.prog f (bnd.push (.agg (rtC pa pc ca cc ra rc r)) ++ caps) W fun e w2 => FlRet e n ∧ Below W.heap.size W w2) := fun W hb => hf W pa pc ca cc ra rc hb (h.below hb)
  clear hf h
  go_enter Try.func42, Try.ntmps42
  go_wp2_with fail
  refine kept_box_intro _ _ _ (by rfl) (run_boxR _ _) ?_
  have HZ : Hid (Bl (w.alloc (.cells (rtC pa pc ca cc ra rc r) 41)) w.heap.size (rtC pa pc ca cc ra rc r)) := Bl.new w _
  have HB1 : Hid (Below w.heap.size w (w.alloc (.cells (rtC pa pc ca cc ra rc r) 41))) := (Below.refl _ _).alloc (Nat.le_refl _) _
  have y1 : (w.alloc (.cells (rtC pa pc ca cc ra rc r) 41)).cell? ⟨Y, 0, none⟩ = some (.func (.func f) bnd caps) := by rw [HB1.out.cell (p := ⟨Y, 0, none⟩) zY]; exact y0
  have z1 := World.block_lt_of_cell? _ _ y1
  simp only at z1
  generalize w.alloc (.cells (rtC pa pc ca cc ra rc r) 41) = w1 at *
  clear y0 zY
  go_wp2_with fail
  refine kept_load_intro _ _ _ (by rfl) (run_loadR HZ.out (RC.rt _ _ _ _ _ _ _)) ?_
  go_wp2_with fail
  refine (HK.out _ HB1.out).mono ?_
  rintro e w2 ⟨⟨b, rfl, hbf⟩, b2⟩
  have HF : Hid (FlIs (Op.negFloat .f64 b) (-n)) := hbf.opp
  have HB2 : Hid (Below w.heap.size w w2) := HB1.out.trans (b2.mono HB1.out.size)
  clear hbf b2 HK y1
  go_wp2
  go_ret
  exact ⟨FlRet.mk HF.out, HB2.out⟩
set_option maxHeartbeats 800000 in
theorem great_any (num : Int) (ai : Option Addr) (ni ci : Nat) (al : Option Addr) (cl : Nat) (all : List Rt) (fv : Nat) (bnd caps : Array Value) (fw : Nat → Int) (w : World) (R : RtsRd w al all) (hy : ∀ (j : Nat) (r : Rt), all[j]? = some r → AsksR w (.func (.func fv) bnd caps) r (fun e => FlRet e (fw j))) :
    Calls Try.prog 24 #[.agg #[.int .i64 num, .slice ai ni ci, .slice al all.length cl], .func (.func fv) bnd caps] w fun e w' => (∃ v, e = .returned v ∧ AsksJ w' v all.length (leastL fun j => - fw j)) ∧ Below w.heap.size w w' := by
  have HK : Hid (∀ (Y : Nat) (W : World), Below w.heap.size w W → W.cell? ⟨Y, 0, none⟩ = some (.func (.func fv) bnd caps) → Calls Try.prog 26 #[.agg #[.int .i64 num, .slice ai ni ci, .slice al all.length cl], .func (.func 42) #[] #[.pointer (some ⟨Y, 0, none⟩)]] W fun e w' => (∃ v, e = .returned v ∧ AsksJ w' v all.length (leastL fun j => - fw j)) ∧ Below W.heap.size W w') := fun Y W hb y0 => by
    have zY := World.block_lt_of_cell? W _ y0
    refine least_any num ai ni ci al cl all 42 #[] #[.pointer (some ⟨Y, 0, none⟩)] (fun j => - fw j) W (R.below hb) (fun j r hr => ⟨_, _, _, rfl, Try.call42, fun w1 pa pc ca cc ra rc h9 ha => ?_⟩)
    exact great1_any pa pc ca cc ra rc r _ (fw j) Y w1 ha ((hy j r hr).below (hb.trans (h9.mono hb.size))) (by rw [h9.cell (p := ⟨Y, 0, none⟩) zY]; exact y0)
  clear R hy
  generalize all.length = m at *
  go_enter Try.func24, Try.ntmps24
  go_wp2_with fail
  have hb : Below w.heap.size w ((w.alloc (.cells #[.int .i64 num, .slice ai ni ci, .slice al m cl] 53)).alloc (.cells #[.func (.func fv) bnd caps] 76)) := ((Below.refl _ _).alloc (Nat.le_refl _) _).alloc (by simp) _
  have HB := hide hb
  refine (HK.out _ _ hb (by simp [go_sem])).mono ?_
  rintro e w2 ⟨⟨v, rfl, hv⟩, b2⟩
  have HV := hide hv
  have HB2 : Hid (Below w.heap.size w w2) := hb.trans (b2.mono hb.size)
  clear hv b2 hb HB HK
  go_wp2
  go_ret
  exact ⟨⟨_, rfl, HV.out⟩, HB2.out⟩
end
end Go.Proofs.Ytolpaimmmhoiiaa
