/- The program's leastMedOfEachFirst. -/
import Derived.Test.YtolpaimmmhoiiaaHDe
import Derived.Test.YtolpaimmmhoiiaaDdF
import Derived.Carry
namespace Go.Proofs.Ytolpaimmmhoiiaa
open Go.RowKit
set_option maxRecDepth 100000

section
variable {ρ : Operand → Value} {dst : Option Nat} {ty : Nat} {pos : String} {after : Array Edge} {gd : Option (Nat × Bool)}
theorem exec_look {w : World} {t : Nat} {m x : Operand} {ok : Bool} {mv xv v : Value} (hm : ρ m = mv) (hx : ρ x = xv) (hr : (Instr.lookup t mv xv ok).run Try.prog w = .ok v w) :
    (execOp ρ { dst := dst, op := .lookup t m x ok, type := ty, pos := pos, after := after, guard := gd }).run Try.prog w = .ok (.value v) w := by
  unfold execOp
  simp only [hm, hx, Sem.run_bind, hr, Result.andThen_ok, Sem.run_pure]
end
section
attribute [local go_sem ↓] keptR_load keptR_store keptR_box keptR_alloc keptR_build keptA_load
set_option maxHeartbeats 1600000 in
theorem meds1_any (pa : Option Addr) (pc : Nat) (ca : Option Addr) (cc : Nat) (ra : Option Addr) (rc : Nat) (r : Rt) (lo : Int → Option Int) (all : List Rt) (j : Nat) (Z b : Nat) (w : World) (har : all[j]? = some r) (hm : inF r.att.med) (h : AtRd w pa ca ra r.att) (M : MapF w b lo) (y0 : w.cell? ⟨Z, 0, none⟩ = some (.map (some b))) :
    Calls Try.prog 48 #[.agg (rtC pa pc ca cc ra rc r), .pointer (some ⟨Z, 0, none⟩)] w fun e w' => e = .returned (.bool (yMed all lo j)) ∧ Below w.heap.size w w' := by
  have HM := hide M
  have zZ := World.block_lt_of_cell? w _ y0
  simp only at zZ
  have HA := hide h
  obtain ⟨f, z, hv, hf⟩ := first_two r.att.path
  have KF : Hid (∀ W, Below w.heap.size w W → Calls Try.prog 46 #[.slice pa r.att.path.length pc] W fun e w' => e = .returned (.tuple #[.int .i64 f, .bool z]) ∧ Below W.heap.size W w') := fun W hb => hv ▸ first_any pa pc r.att.path W (h.path.below hb)
  have KM : Hid (∀ W, Calls Try.prog 47 #[.agg (rtC pa pc ca cc ra rc r)] W fun e w' => FlRet e (medA r.att) ∧ Below W.heap.size W w') := fun W => qmed_any pa pc ca cc ra rc r W hm
  have HYn : Hid (z = false → yMed all lo j = true) := fun hz => by
    subst hz
    exact yMed_no har hf
  have HYs : Hid (z = true → yMed all lo j = decide (medA r.att = (lo f).getD 0)) := fun hz => by
    subst hz
    exact yMed_at har hf
  clear M h hm hv hf har
  generalize yMed all lo j = y at *
  go_enter Try.func48, Try.ntmps48
  go_wp2_with fail
  refine kept_box_intro _ _ _ (by rfl) (run_boxR _ _) ?_
  have HZ : Hid (Bl (w.alloc (.cells (rtC pa pc ca cc ra rc r) 41)) w.heap.size (rtC pa pc ca cc ra rc r)) := Bl.new w _
  have HB1 : Hid (Below w.heap.size w (w.alloc (.cells (rtC pa pc ca cc ra rc r) 41))) := (Below.refl _ _).alloc (Nat.le_refl _) _
  have y1 : (w.alloc (.cells (rtC pa pc ca cc ra rc r) 41)).cell? ⟨Z, 0, none⟩ = some (.map (some b)) := by rw [HB1.out.cell (p := ⟨Z, 0, none⟩) zZ]; exact y0
  have c4 : (w.alloc (.cells (rtC pa pc ca cc ra rc r) 41)).cell? ⟨w.heap.size, 4, none⟩ = some (.slice pa r.att.path.length pc) := HZ.out.cell 4 rfl
  have HM1 := hide (HM.out.later HB1.out)
  have z1 := World.block_lt_of_cell? _ _ y1
  have z4 := World.block_lt_of_cell? _ _ c4
  simp only at z1 z4
  generalize w.alloc (.cells (rtC pa pc ca cc ra rc r) 41) = w1 at *
  clear y0 zZ HM
  generalize r.att.path.length = lp at *
  go_wp2_with fail
  refine (KF.out _ HB1.out).mono ?_
  rintro e w2 ⟨rfl, b2⟩
  have HB2 : Hid (Below w.heap.size w w2) := HB1.out.trans (b2.mono HB1.out.size)
  have HZ2 := hide (HZ.out.below b2)
  have HM2 := hide (HM1.out.later b2)
  have y2 : w2.cell? ⟨Z, 0, none⟩ = some (.map (some b)) := by rw [b2.cell (p := ⟨Z, 0, none⟩) z1]; exact y1
  have s2 := World.block_lt_of_cell? _ _ y2
  simp only at s2
  clear b2 KF y1 c4 HZ HM1 z1 z4
  cases z with
  | false =>
    have HY := hide (HYn.out rfl)
    clear HYn HYs
    go_wp2_with fail
    refine region_ord (fun w' => Below w2.heap.size w2 w') (fun k => k == 4) [0, 1, 2, 3, 5, 6, 7, 4, 8, 9, 10] (by kernel_rfl) (by kernel_rfl) rfl (by kernel_rfl) (Below.refl _ _).drew ?_
    refine ord_q (by rfl) (by rfl) (by rfl) (fun w9 h9 => (by go_simp; first | done | rfl)) (by go_simp; first | done | rfl) ?_
    refine ord_q (by rfl) (by rfl) (by rfl) (fun w9 h9 => (by go_simp; first | done | rfl)) (by go_simp; first | done | rfl) ?_
    refine ord_q (by rfl) (by rfl) (by rfl) (fun w9 h9 => (by go_simp; first | done | rfl)) (by go_simp; first | done | rfl) ?_
    refine ord_s (by rfl) (by rfl) (by rfl) (by go_simp; first | done | rfl) ?_
    refine ord_s (by rfl) (by rfl) (by rfl) (by go_simp; first | done | rfl) ?_
    refine ord_s (by rfl) (by rfl) (by rfl) (by go_simp; first | done | rfl) ?_
    refine ord_s (by rfl) (by rfl) (by rfl) (by go_simp; first | done | rfl) ?_
    refine ord_ls (by rfl) (by rfl) (by rfl) (by go_simp; first | done | rfl) (Below.refl _ _).drew ?_
    refine ord_s (by rfl) (by rfl) (by rfl) (by go_simp; first | done | rfl) ?_
    refine ord_q (by rfl) (by rfl) (by rfl) (fun w9 h9 => (by go_simp; first | done | rfl)) (by go_simp; first | done | rfl) ?_
    refine ord_q (by rfl) (by rfl) (by rfl) (fun w9 h9 => (by go_simp; first | done | rfl)) (by go_simp; first | done | rfl) ?_
    refine ⟨fun _ h => (by cases h), ?_⟩
    go_wp2
    go_ret
    exact ⟨ret_bool HY.out.symm, HB2.out.drew⟩
  | true =>
    have HY := hide (HYs.out rfl)
    obtain ⟨bits, ok, hl1, hl2, hcase⟩ := HM2.out.look f
    have HL := hide hl2
    have HV : Hid (FlIs bits ((lo f).getD 0)) := by
      show FlIs _ _
      rcases hcase with ⟨_, h, hf⟩ | ⟨n, _, h, hf⟩
      · rw [h]; exact hf
      · rw [h]; exact hf
    have sb := HM2.out.lt
    clear hl1 hl2 hcase HYn HYs
    go_wp2_with fail
    refine region_ord (fun w' => Below w2.heap.size w2 w') (fun k => k == 4) [0, 1, 2, 3, 5, 6, 7, 4, 8, 9, 10] (by kernel_rfl) (by kernel_rfl) rfl (by kernel_rfl) (Below.refl _ _).drew ?_
    refine ord_q (by rfl) (by rfl) (by rfl) (fun w9 h9 => (by go_simp; first | done | rfl)) (by go_simp; first | done | rfl) ?_
    refine ord_q (by rfl) (by rfl) (by rfl) (fun w9 h9 => (by go_simp; first | done | rfl)) (by go_simp; first | done | rfl) ?_
    refine ord_q (by rfl) (by rfl) (by rfl) (fun w9 h9 => (by go_simp; first | done | rfl)) (by go_simp; first | done | rfl) ?_
    refine ord_q (by rfl) (by rfl) (by rfl) (fun w9 h9 => exec_loadR (by rfl) (HZ2.out.below h9) (RC.rt _ _ _ _ _ _ _)) (by go_simp; first | done | rfl) ?_
    refine ord_q (by rfl) (by rfl) (by rfl) (fun w9 h9 => (by have Y2' := y2; rw [← h9.cell (p := ⟨Z, 0, none⟩) s2] at Y2'; go_simp; first | done | rfl)) (by go_simp; first | done | rfl) ?_
    refine ord_q (by rfl) (by rfl) (by rfl) (fun w9 h9 => (by go_simp; first | done | rfl)) (by go_simp; first | done | rfl) ?_
    refine ord_q (by rfl) (by rfl) (by rfl) (fun w9 h9 => exec_look (by rfl) (by rfl) (HL.out _ (h9.block _ sb))) (by go_simp; first | done | rfl) ?_
    refine ord_l (by rfl) (by rfl) (by rfl) ?_
    go_simp
    refine (KM.out _).mono ?_
    rintro e w4 ⟨⟨bm, rfl, hbm⟩, hb4⟩
    have hb5 : Below w2.heap.size w2 w4 := (Below.refl _ _).drew.trans (hb4.mono (by simp))
    refine ⟨hb5, ?_⟩
    have HBF : Hid (Below w.heap.size w w4) := HB2.out.trans (hb5.mono HB2.out.size)
    have HE : Hid ((FloatKind.f64.format.order bm bits == some Ordering.eq) = y) := by
      show _ = _
      rw [float_eq hbm HV.out, HY.out]
    clear hbm hb4 hb5 KM HV HY HL HM2
    repeat refine ord_q (by rfl) (by rfl) (by rfl) (fun w9 h9 => (by go_simp; first | done | rfl)) (by go_simp; first | done | rfl) ?_
    refine ⟨fun _ h => (by cases h), ?_⟩
    go_wp2
    go_ret
    exact ⟨ret_bool HE.out, HBF.out⟩
section
variable {P : Program} {a : Act} {w w' : World} {K : Act → World → Prop} {Q : Exit → Act → World → Prop} {dst : Option Tmp} {ty : TypeId} {pos : String} {after : Array Edge} {gd : Option (Nat × Bool)}
theorem wp_mapUpdateF {t : TypeId} (m x y : Operand) (mv xv yv : Value) (hm : a.eval m = mv) (hx : a.eval x = xv) (hy : a.eval y = yv) (hr : (Instr.mapUpdate t mv xv yv).run P w = .ok () w') (h : K (a.put dst undef) w') : Oper.wp P { dst := dst, op := .mapUpdate t m x y, type := ty, pos := pos, after := after, guard := gd } a w K Q := by
  unfold Oper.wp execOp
  simp only [hm, hx, hy, Sem.run_bind, hr, Result.andThen_ok, Sem.run_pure]
  exact h
end
set_option maxHeartbeats 6400000 in
theorem meds_any (num : Int) (ai : Option Addr) (ni ci : Nat) (al : Option Addr) (cl : Nat) (all : List Rt) (ae : Option Addr) (ce : Nat) (js : List Nat) (w : World) (hj : js.length ≤ 3000) (hq : ∀ j ∈ js, j < all.length) (hmed : ∀ (j : Nat) (r : Rt), all[j]? = some r → inF r.att.med) (R : RtsRd w al all) (E : IRd w ae (jsI js)) :
    Calls Try.prog 29 #[.agg #[.int .i64 num, .slice ai ni ci, .slice al all.length cl], .slice ae js.length ce] w fun e w' => (∃ a2 c2, e = .returned (.slice a2 (js.filter (yMed all (loF all js))).length c2) ∧ IRd w' a2 (jsI (js.filter (yMed all (loF all js))))) ∧ Below w.heap.size w w' := by
  have HR := hide R
  have HE := hide E
  have HQ := hide hq
  have HMED := hide hmed
  have KT : Hid (∀ (W : World) (v : Value), Below w.heap.size w W → (∀ (j : Nat) (r : Rt), all[j]? = some r → AsksR W v r (BoolRet (yMed all (loF all js) j))) → Calls Try.prog 15 #[.agg #[.int .i64 num, .slice ai ni ci, .slice al all.length cl], .slice ae js.length ce, v] W fun e w' => (∃ s, e = .returned s ∧ OwnJ w' W.heap.size s (js.filter (yMed all (loF all js)))) ∧ Below W.heap.size W w') := fun W v hb hy => those_any num ai ni ci al cl all ae ce js v _ W hj hq (R.below hb) (E.below hb) hy
  clear R E hq hmed
  obtain ⟨m, hm⟩ : ∃ m, m = all.length := ⟨_, rfl⟩
  rw [← hm] at KT ⊢
  have HM := hide hm
  clear hm
  obtain ⟨n, hn⟩ : ∃ n, n = js.length := ⟨_, rfl⟩
  rw [← hn] at hj KT ⊢
  have HN := hide hn
  clear hn
  obtain ⟨st, hst⟩ : ∃ st, st = js.filter (yMed all (loF all js)) := ⟨_, rfl⟩
  rw [← hst] at KT ⊢
  clear hst
  have hmm := @run_makeMap Try.prog
  go_enter Try.func29, Try.ntmps29
  go_wp2_with fail
  have HX0 : Hid ((((w.alloc (.cells #[.int .i64 num, .slice ai ni ci, .slice al m cl] 53)).alloc (.map #[] 0)).alloc (.cells #[.map (some (w.heap.size + 1))] 79)).heap.size = w.heap.size + 3) := by show _ = _; simp
  have HBW0 : Hid (Below w.heap.size w (((w.alloc (.cells #[.int .i64 num, .slice ai ni ci, .slice al m cl] 53)).alloc (.map #[] 0)).alloc (.cells #[.map (some (w.heap.size + 1))] 79))) := (((Below.refl _ _).alloc (Nat.le_refl _) _).alloc (by simp) _).alloc (by simp; omega) _
  have HM0 : Hid (MapF (((w.alloc (.cells #[.int .i64 num, .slice ai ni ci, .slice al m cl] 53)).alloc (.map #[] 0)).alloc (.cells #[.map (some (w.heap.size + 1))] 79)) (w.heap.size + 1) fun _ => none) := by
    have h := MapF.new (w.alloc (.cells #[.int .i64 num, .slice ai ni ci, .slice al m cl] 53))
    rw [World.size_alloc] at h
    exact h.later ((Below.refl _ _).alloc (Nat.le_refl _) _)
  have d0 : (((w.alloc (.cells #[.int .i64 num, .slice ai ni ci, .slice al m cl] 53)).alloc (.map #[] 0)).alloc (.cells #[.map (some (w.heap.size + 1))] 79)).cell? ⟨w.heap.size, 0, none⟩ = some (.int .i64 num) := by
    rw [World.cell?_alloc_lt _ _ _ (by simp <;> omega), World.cell?_alloc_lt _ _ _ (by simp <;> omega)]
    simp [go_sem]
  have d1 : (((w.alloc (.cells #[.int .i64 num, .slice ai ni ci, .slice al m cl] 53)).alloc (.map #[] 0)).alloc (.cells #[.map (some (w.heap.size + 1))] 79)).cell? ⟨w.heap.size, 1, none⟩ = some (.slice ai ni ci) := by
    rw [World.cell?_alloc_lt _ _ _ (by simp <;> omega), World.cell?_alloc_lt _ _ _ (by simp <;> omega)]
    simp [go_sem]
  have d2 : (((w.alloc (.cells #[.int .i64 num, .slice ai ni ci, .slice al m cl] 53)).alloc (.map #[] 0)).alloc (.cells #[.map (some (w.heap.size + 1))] 79)).cell? ⟨w.heap.size, 2, none⟩ = some (.slice al m cl) := by
    rw [World.cell?_alloc_lt _ _ _ (by simp <;> omega), World.cell?_alloc_lt _ _ _ (by simp <;> omega)]
    simp [go_sem]
  have d3 : (((w.alloc (.cells #[.int .i64 num, .slice ai ni ci, .slice al m cl] 53)).alloc (.map #[] 0)).alloc (.cells #[.map (some (w.heap.size + 1))] 79)).cell? ⟨w.heap.size + 1 + 1, 0, none⟩ = some (.map (some (w.heap.size + 1))) := by
    have : w.heap.size + 1 + 1 = ((w.alloc (.cells #[.int .i64 num, .slice ai ni ci, .slice al m cl] 53)).alloc (.map #[] 0)).heap.size := by simp
    rw [this, World.cell?_alloc_mark]
    rfl
  generalize ((w.alloc (.cells #[.int .i64 num, .slice ai ni ci, .slice al m cl] 53)).alloc (.map #[] 0)).alloc (.cells #[.map (some (w.heap.size + 1))] 79) = w0 at *
  have z0 : w0.heap.size = w.heap.size + 3 := HX0.out
  clear hmm HX0
  go_loopw [15] (fun i wq => ∃ k : Nat, k ≤ n ∧ i = .int .i64 k ∧ Hid (MapF wq (w.heap.size + 1) (loF all (js.take k))) ∧ Hid (Keeps (fun x => x = w.heap.size + 1) w0 wq)) (fun i _ => n - (intOf i).toNat)
  case atStart => exact ⟨0, Nat.zero_le _, rfl, HM0, Keeps.refl _ _⟩
  case round =>
    obtain ⟨k, hk, rfl, HMK, HKK⟩ := hrel
    have hk0 : (0 : Int) ≤ (k : Int) := Int.natCast_nonneg _
    have HB : Hid (Below w.heap.size w wr) := HBW0.out.trans (HKK.out.below w.heap.size (by omega) (fun b hb => by omega))
    have zr : w.heap.size + 3 ≤ wr.heap.size := by have := HKK.out.size; omega
    have r2 : wr.cell? ⟨w.heap.size, 2, none⟩ = some (.slice al m cl) := by rw [HKK.out.cell ⟨w.heap.size, 2, none⟩ (by simp only; omega) (by simp only; omega)]; exact d2
    have r3 : wr.cell? ⟨w.heap.size + 1 + 1, 0, none⟩ = some (.map (some (w.heap.size + 1))) := by rw [HKK.out.cell ⟨w.heap.size + 1 + 1, 0, none⟩ (by simp only; omega) (by simp only; omega)]; exact d3
    by_cases hlt : k < n
    · have hkl : k < js.length := by rw [← HN.out]; exact hlt
      have hg : js[k]? = some js[k] := List.getElem?_eq_getElem hkl
      have hta : js.take (k + 1) = js.take k ++ [js[k]] := by rw [List.take_succ_eq_append_getElem hkl]
      obtain ⟨b, off, rfl, hc⟩ := (HE.out.below HB.out) (by simp [jsI]; omega)
      have cj : wr.cell? ⟨b, off + k, none⟩ = some (.int .i64 (js[k] : Int)) := hc k _ (jsI_get hg)
      have hjm : js[k] < all.length := HQ.out _ (List.getElem_mem hkl)
      have har : all[js[k]]? = some all[js[k]] := List.getElem?_eq_getElem hjm
      obtain ⟨g, o, rfl, hcr⟩ := HR.out (by omega)
      obtain ⟨pa, pc, ca, cc, ra, rc, rt⟩ := hcr _ _ har
      have HRT := hide rt
      have KM : Hid (∀ W, Calls Try.prog 47 #[.agg (rtC pa pc ca cc ra rc all[js[k]])] W fun e w' => FlRet e (medA all[js[k]].att) ∧ Below W.heap.size W w') := fun W => qmed_any pa pc ca cc ra rc _ W (HMED.out _ _ har)
      have c4 : wr.cell? ⟨g, o + js[k] * 11 + 4, none⟩ = some (.slice pa all[js[k]].att.path.length pc) := (rt.below HB.out).1 4 _ rfl
      have KF : Hid (∀ W, Below wr.heap.size wr W → Calls Try.prog 46 #[.slice pa all[js[k]].att.path.length pc] W fun e w' => e = .returned (firstV (firstP all[js[k]].att.path)) ∧ Below W.heap.size W w') := fun W hb => first_any pa pc _ W ((rt.below HB.out).2.path.below hb)
      have HSTEP : Hid (loF all (js.take (k + 1)) = lowS all (loF all (js.take k)) js[k]) := by
        show _ = _
        rw [hta, loF_snoc]
      have HAR := hide har
      rw [← HM.out] at hjm
      generalize all[js[k]] = r at *
      generalize js[k] = j at *
      generalize loF all (js.take k) = lo at *
      have hj0 : (0 : Int) ≤ (j : Int) := Int.natCast_nonneg _
      have hjm2 : (j : Int) < (m : Int) := by omega
      have hkn : (k : Int) < (n : Int) := by omega
      have zg := World.block_lt_of_cell? wr _ c4
      have zb := World.block_lt_of_cell? wr _ cj
      simp only at zg zb
      obtain ⟨f, z, hv, hf⟩ := first_two r.att.path
      rw [hv] at KF
      have HF := hide hf
      clear hta hg hc hcr rt har d0 d1 d2 d3 HBW0 HM0 hf hv
      generalize r.att.path.length = lp at *
      go_wp2_with fail
      refine (KF.out _ (Below.refl _ _)).mono ?_
      rintro e w2 ⟨rfl, b2⟩
      have HK2 : Hid (Keeps (fun x => x = w.heap.size + 1) w0 w2) := HKK.out.trans (Keeps.of_below b2 (fun x => x = w.heap.size + 1)) (fun _ _ h => h)
      have HM2 := hide (HMK.out.later b2)
      have HB2 : Hid (Below w.heap.size w w2) := HB.out.trans (b2.mono HB.out.size)
      have e2 : w2.cell? ⟨w.heap.size, 2, none⟩ = some (.slice (some ⟨g, o, none⟩) m cl) := by rw [b2.cell (p := ⟨w.heap.size, 2, none⟩) (by simp only; omega)]; exact r2
      have e3 : w2.cell? ⟨w.heap.size + 1 + 1, 0, none⟩ = some (.map (some (w.heap.size + 1))) := by rw [b2.cell (p := ⟨w.heap.size + 1 + 1, 0, none⟩) (by simp only; omega)]; exact r3
      have z2 : w.heap.size + 3 ≤ w2.heap.size := by have := b2.size; omega
      have zg2 : g < w2.heap.size := by have := b2.size; omega
      clear b2 KF cj c4 r2 r3 HKK HMK HB zr zg zb
      cases z with
      | false =>
        have HM9 : Hid (MapF w2 (w.heap.size + 1) (loF all (js.take (k + 1)))) := by
          show MapF _ _ _
          rw [HSTEP.out, lowS_no HAR.out HF.out]
          exact HM2.out
        clear HSTEP HM2 KM
        go_wp2
        exact ⟨⟨k + 1, by omega, by go_num, HM9, HK2⟩, by simp [intOf]; omega⟩
      | true =>
        obtain ⟨bits, there, hl1, hl2, hcase⟩ := HM2.out.look f
        have hlk := hl1 w2 rfl
        have HC := hide hcase
        clear hl1 hl2 hcase
        cases there with
        | false =>
          have HL0 : Hid (loF all (js.take (k + 1)) = updF lo f (medA r.att)) := by
            show _ = _
            rw [HSTEP.out]
            rcases HC.out with ⟨_, h, _⟩ | ⟨_, h, _⟩
            · exact lowS_new HAR.out HF.out h
            · cases h
          clear HSTEP HC
          go_wp2_with fail
          refine region_mix (fun w' => Keeps (fun x => x = w.heap.size + 1) w2 w') (fun k => k == 7 || k == 8) (by kernel_rfl) (by kernel_rfl) (by kernel_rfl) (Keeps.refl _ _).drew ?_
          refine mix_q (by rfl) (by rfl) (fun w9 h9 => (by have Y' := e3; rw [← h9.cell ⟨w.heap.size + 1 + 1, 0, none⟩ (by simp only; omega) (by simp only; omega)] at Y'; go_simp; first | done | rfl)) (by go_simp; first | done | rfl) ?_
          refine mix_q (by rfl) (by rfl) (fun w9 h9 => (by go_simp; first | done | rfl)) (by go_simp; first | done | rfl) ?_
          refine mix_q (by rfl) (by rfl) (fun w9 h9 => (by go_simp; first | done | rfl)) (by go_simp; first | done | rfl) ?_
          refine mix_q (by rfl) (by rfl) (fun w9 h9 => (by have X' := e2; rw [← h9.cell ⟨w.heap.size, 2, none⟩ (by simp only; omega) (by simp only; omega)] at X'; go_simp; first | done | rfl)) (by go_simp; first | done | rfl) ?_
          refine mix_q (by rfl) (by rfl) (fun w9 h9 => (by go_simp; first | done | rfl)) (by go_simp; first | done | rfl) ?_
          refine mix_q (by rfl) (by rfl) (fun w9 h9 => (by go_simp; first | done | rfl)) (by go_simp; first | done | rfl) ?_
          refine mix_q (by rfl) (by rfl) (fun w9 h9 => exec_loadR_at (by rfl) (HRT.out.below (HB2.out.trans (h9.below w.heap.size (by omega) (fun b hb => by omega))))) (by go_simp; first | done | rfl) ?_
          refine mix_l (by rfl) (by rfl) (by rfl) ?_
          go_simp
          refine (KM.out _).mono ?_
          rintro e w7 ⟨⟨bm7, rfl, hbm7⟩, b7⟩
          have k7 : Keeps (fun x => x = w.heap.size + 1) w2 w7 := (Keeps.refl _ w2).drew.trans (Keeps.of_below b7 (fun x => x = w.heap.size + 1)) (fun _ _ h => h)
          refine ⟨k7, ?_⟩
          refine mix_l (by rfl) (by rfl) (by rfl) ?_
          obtain ⟨w8, hr8, hm8, hk8⟩ := ((HM2.out.later (Below.refl _ _).drew).later b7).put f (medA r.att) bm7 hbm7
          refine wp_mapUpdateF _ _ _ _ _ _ (by rfl) (by rfl) (by rfl) hr8 ?_
          have k8 : Keeps (fun x => x = w.heap.size + 1) w2 w8 := k7.trans hk8 (fun _ _ h => h)
          refine ⟨k8, ?_⟩
          have HK8 : Hid (Keeps (fun x => x = w.heap.size + 1) w0 w8) := HK2.out.trans k8 (fun _ _ h => h)
          have HM8 : Hid (MapF w8 (w.heap.size + 1) (loF all (js.take (k + 1)))) := by
            show MapF _ _ _
            rw [HL0.out]
            exact hm8
          clear hr8 hm8 hk8 k8 k7 b7 hbm7
          refine ⟨fun _ h => (by cases h), ?_⟩
          go_wp2
          exact ⟨⟨k + 1, by omega, by go_num, HM8, HK8⟩, by simp [intOf]; omega⟩
        | true =>
          obtain ⟨mm, hmm, hbm⟩ : ∃ mm, lo f = some mm ∧ FlIs bits mm := by
            rcases HC.out with ⟨h, _⟩ | ⟨mm, _, h1, h2⟩
            · cases h
            · exact ⟨mm, h1, h2⟩
          have HMM := hide hmm
          have HBM := hide hbm
          clear hmm hbm HC
          go_wp2_with fail
          refine kept_load_intro _ _ _ (by rfl) (run_loadR_at (HRT.out.below HB2.out)) ?_
          go_wp2_with fail
          refine (KM.out _).mono ?_
          rintro e w3 ⟨⟨bm, rfl, hb3⟩, b3⟩
          have HK3 : Hid (Keeps (fun x => x = w.heap.size + 1) w0 w3) := HK2.out.trans (Keeps.of_below b3 (fun x => x = w.heap.size + 1)) (fun _ _ h => h)
          have HM3 := hide (HM2.out.later b3)
          have HB3 : Hid (Below w.heap.size w w3) := HB2.out.trans (b3.mono HB2.out.size)
          have h2 : w3.cell? ⟨w.heap.size, 2, none⟩ = some (.slice (some ⟨g, o, none⟩) m cl) := by rw [b3.cell (p := ⟨w.heap.size, 2, none⟩) (by simp only; omega)]; exact e2
          have h3 : w3.cell? ⟨w.heap.size + 1 + 1, 0, none⟩ = some (.map (some (w.heap.size + 1))) := by rw [b3.cell (p := ⟨w.heap.size + 1 + 1, 0, none⟩) (by simp only; omega)]; exact e3
          have z3 : w.heap.size + 3 ≤ w3.heap.size := by have := b3.size; omega
          have zg3 : g < w3.heap.size := by have := b3.size; omega
          have HLT := hide (float_lt hb3 HBM.out)
          clear b3 hb3 e2 e3 HK2 HM2 HB2 z2 zg2 hlk
          by_cases hlow : medA r.att < mm
          · have flt : (FloatKind.f64.format.order bm bits == some Ordering.lt) = true := by rw [HLT.out]; exact decide_eq_true hlow
            have HL0 : Hid (loF all (js.take (k + 1)) = updF lo f (medA r.att)) := by
              show _ = _
              rw [HSTEP.out, lowS_less HAR.out HF.out HMM.out hlow]
            clear HLT hlow HSTEP
            go_wp2_with fail
            refine region_mix (fun w' => Keeps (fun x => x = w.heap.size + 1) w3 w') (fun k => k == 7 || k == 8) (by kernel_rfl) (by kernel_rfl) (by kernel_rfl) (Keeps.refl _ _).drew ?_
            refine mix_q (by rfl) (by rfl) (fun w9 h9 => (by have Y' := h3; rw [← h9.cell ⟨w.heap.size + 1 + 1, 0, none⟩ (by simp only; omega) (by simp only; omega)] at Y'; go_simp; first | done | rfl)) (by go_simp; first | done | rfl) ?_
            refine mix_q (by rfl) (by rfl) (fun w9 h9 => (by go_simp; first | done | rfl)) (by go_simp; first | done | rfl) ?_
            refine mix_q (by rfl) (by rfl) (fun w9 h9 => (by go_simp; first | done | rfl)) (by go_simp; first | done | rfl) ?_
            refine mix_q (by rfl) (by rfl) (fun w9 h9 => (by have X' := h2; rw [← h9.cell ⟨w.heap.size, 2, none⟩ (by simp only; omega) (by simp only; omega)] at X'; go_simp; first | done | rfl)) (by go_simp; first | done | rfl) ?_
            refine mix_q (by rfl) (by rfl) (fun w9 h9 => (by go_simp; first | done | rfl)) (by go_simp; first | done | rfl) ?_
            refine mix_q (by rfl) (by rfl) (fun w9 h9 => (by go_simp; first | done | rfl)) (by go_simp; first | done | rfl) ?_
            refine mix_q (by rfl) (by rfl) (fun w9 h9 => exec_loadR_at (by rfl) (HRT.out.below (HB3.out.trans (h9.below w.heap.size (by omega) (fun b hb => by omega))))) (by go_simp; first | done | rfl) ?_
            refine mix_l (by rfl) (by rfl) (by rfl) ?_
            go_simp
            refine (KM.out _).mono ?_
            rintro e w7 ⟨⟨bm7, rfl, hbm7⟩, b7⟩
            have k7 : Keeps (fun x => x = w.heap.size + 1) w3 w7 := (Keeps.refl _ w3).drew.trans (Keeps.of_below b7 (fun x => x = w.heap.size + 1)) (fun _ _ h => h)
            refine ⟨k7, ?_⟩
            refine mix_l (by rfl) (by rfl) (by rfl) ?_
            obtain ⟨w8, hr8, hm8, hk8⟩ := ((HM3.out.later (Below.refl _ _).drew).later b7).put f (medA r.att) bm7 hbm7
            refine wp_mapUpdateF _ _ _ _ _ _ (by rfl) (by rfl) (by rfl) hr8 ?_
            have k8 : Keeps (fun x => x = w.heap.size + 1) w3 w8 := k7.trans hk8 (fun _ _ h => h)
            refine ⟨k8, ?_⟩
            have HK8 : Hid (Keeps (fun x => x = w.heap.size + 1) w0 w8) := HK3.out.trans k8 (fun _ _ h => h)
            have HM8 : Hid (MapF w8 (w.heap.size + 1) (loF all (js.take (k + 1)))) := by
              show MapF _ _ _
              rw [HL0.out]
              exact hm8
            clear hr8 hm8 hk8 k8 k7 b7 hbm7
            refine ⟨fun _ h => (by cases h), ?_⟩
            go_wp2
            exact ⟨⟨k + 1, by omega, by go_num, HM8, HK8⟩, by simp [intOf]; omega⟩
          · have flt : (FloatKind.f64.format.order bm bits == some Ordering.lt) = false := by rw [HLT.out]; exact decide_eq_false hlow
            have HM9 : Hid (MapF w3 (w.heap.size + 1) (loF all (js.take (k + 1)))) := by
              show MapF _ _ _
              rw [HSTEP.out, lowS_more HAR.out HF.out HMM.out hlow]
              exact HM3.out
            clear HLT hlow HSTEP HM3
            go_wp2
            exact ⟨⟨k + 1, by omega, by go_num, HM9, HK3⟩, by simp [intOf]; omega⟩
    · have hkn : k = n := by omega
      subst hkn
      have htt : js.take k = js := by rw [HN.out]; exact List.take_length
      rw [htt] at HMK
      clear htt
      have r0 : wr.cell? ⟨w.heap.size, 0, none⟩ = some (.int .i64 num) := by rw [HKK.out.cell ⟨w.heap.size, 0, none⟩ (by simp only; omega) (by simp only; omega)]; exact d0
      have r1 : wr.cell? ⟨w.heap.size, 1, none⟩ = some (.slice ai ni ci) := by rw [HKK.out.cell ⟨w.heap.size, 1, none⟩ (by simp only; omega) (by simp only; omega)]; exact d1
      have K9 := hide (KT.out wr (.func (.func 48) #[] #[.pointer (some ⟨w.heap.size + 1 + 1, 0, none⟩)]) HB.out (fun j r hr => ⟨_, _, _, rfl, Try.call48, fun w1 pa pc ca cc ra rc h9 ha => meds1_any pa pc ca cc ra rc r (loF all js) all j (w.heap.size + 1 + 1) (w.heap.size + 1) w1 hr (HMED.out _ _ hr) ha (HMK.out.later h9) (by rw [h9.cell (p := ⟨w.heap.size + 1 + 1, 0, none⟩) (by simp only; omega)]; exact r3)⟩))
      clear KT HMED d0 d1 d2 d3 HBW0 HM0
      go_wp2_with fail
      refine K9.out.mono ?_
      rintro e w4 ⟨⟨s, rfl, ho⟩, b4⟩
      obtain ⟨a9, c9, rfl, rd9⟩ := ho.rd
      have RD := hide rd9
      have HB4 : Hid (Below w.heap.size w w4) := HB.out.trans (b4.mono HB.out.size)
      clear rd9 ho b4 K9 r0 r1 r2 r3
      go_wp2
      go_ret
      exact ⟨⟨_, _, rfl, RD.out⟩, HB4.out⟩
end
end Go.Proofs.Ytolpaimmmhoiiaa
