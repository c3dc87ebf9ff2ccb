/- The document's score at step 5: has another one a lower Med? (written by tools/gen_score5.py). -/
import Derived.Test.YtolpaimmmhoiiaaDcB
namespace Go.Proofs.Ytolpaimmmhoiiaa
open Go.RowKit
set_option maxRecDepth 100000

section
variable {P : Program} {ops : Array Oper} {Q : Exit → Act → World → Prop} {S : World → Prop} {L : Nat → Bool}
theorem ord_s {o : Oper} {l : List Nat} {k : Nat} {a a' : Act} {w : World} (hL : L k = false) (ho : ops[k]? = some o) (hw : Region.wanted o (yielded ops a.tmps) = false) (ha : a.put o.dst undef = a') (h : wpOrd P ops Q S L l a' w) :
    wpOrd P ops Q S L (k :: l) a w := by
  rw [wpOrd, if_neg (by rw [hL]; simp)]
  exact ⟨o, undef, ho, .inr ⟨hw, rfl⟩, by rw [ha]; exact h⟩
theorem ord_ls {o : Oper} {l : List Nat} {k : Nat} {a a' : Act} {w : World} (hL : L k = true) (ho : ops[k]? = some o) (hw : Region.wanted o (yielded ops a.tmps) = false) (ha : a.put o.dst undef = a') (hS : S w) (h : wpOrd P ops Q S L l a' w) :
    wpOrd P ops Q S L (k :: l) a w := by
  rw [wpOrd, if_pos hL]
  unfold wpOp
  rw [ho]
  simp only [hw, Bool.false_eq_true, if_false]
  rw [ha]
  exact ⟨hS, h⟩
end
section
variable {ρ : Operand → Value} {dst : Option Nat} {ty : Nat} {pos : String} {after : Array Edge} {gd : Option (Nat × Bool)}
theorem exec_loadA {w : World} {X : Nat} {x : Operand} {pa : Option Addr} {pc : Nat} {ca : Option Addr} {cc : Nat} {ra : Option Addr} {rc : Nat} {r : Rt} (hx : ρ x = .pointer (some ⟨X, 3, none⟩)) (h : Bl w X (rtC pa pc ca cc ra rc r)) :
    (execOp ρ { dst := dst, op := .load 39 x, type := ty, pos := pos, after := after, guard := gd }).run Try.prog w = .ok (.value (atV pa pc ca cc ra rc r.att)) w := by
  have hr := run_loadA h
  unfold execOp
  simp only [hx, Sem.run_bind, hr, Result.andThen_ok, Sem.run_pure]
end
theorem any_no {α : Type} {f : α → Bool} : ∀ (l : List α), (∀ (k : Nat) (o : α), l[k]? = some o → f o = false) → l.any f = false
  | [], _ => rfl
  | x :: l, h => by
    rw [List.any_cons, h 0 x rfl, any_no l fun k o hk => h (k + 1) o (by simpa using hk)]
    rfl
theorem any_yes {α : Type} {f : α → Bool} {l : List α} {k : Nat} {o : α} (h : l[k]? = some o) (hf : f o = true) : l.any f = true :=
  List.any_eq_true.2 ⟨o, List.mem_of_getElem? h, hf⟩
theorem first_two (p : List (Bool × List Int)) : ∃ f b, firstV (firstP p) = .tuple #[.int .i64 f, .bool b] ∧ firstP p = if b = true then some f else none := by
  cases h : firstP p with
  | none => exact ⟨0, false, rfl, rfl⟩
  | some f => exact ⟨f, true, rfl, rfl⟩
theorem lower_is (r o : Rt) {f g : Int} {b c : Bool} (h1 : firstP r.att.path = if b = true then some f else none) (h2 : firstP o.att.path = if c = true then some g else none) : lower r o = (b && (c && (decide (f = g) && decide (medA o.att < medA r.att)))) := by
  unfold lower
  rw [h1, h2]
  cases b <;> cases c <;> rfl
section
attribute [local go_sem ↓] keptR_load keptR_store keptR_box keptR_alloc keptR_build keptA_load
set_option maxHeartbeats 3200000 in
theorem score_5 (num : Int) (ai : Option Addr) (ci : Nat) (infos : List Inf) (al : Option Addr) (cl : Nat) (all : List Rt) (ae : Option Addr) (ce : Nat) (js : List Nat) (left : List Rt) (n : Nat) (r : Rt) (w : World) (hn : all[n]? = some r) (ha : all.length ≤ 3000) (hi : infos.length ≤ 100000) (hid : ∀ x ∈ infos, x.id < 4294967296) (hr : fitR r) (hj : js.length ≤ 3000) (hl : left.length = js.length) (hq : ∀ (k j : Nat), js[k]? = some j → ∃ o, all[j]? = some o ∧ left[k]? = some o) (R : RtsRd w al all) (E : IRd w ae (js.map fun (j : Nat) => (j : Int))) (I : InfsRd w ai infos) :
    Calls Try.prog 19 #[.int .i64 5, .int .i64 num, .slice ai infos.length ci, .slice al all.length cl, .slice ae js.length ce, .int .i64 (n : Int)] w fun e w' => e = .returned (.int .i64 (scoreR 5 num infos left r)) ∧ Below w.heap.size w w' := by
  have HR := hide R
  have HL := hide hl
  have HQ := hide hq
  have HE1 := hide E
  clear hl hq E
  have hnl := (List.getElem?_eq_some_iff.1 hn).1
  obtain ⟨g, o, rfl, hc⟩ := R (by omega)
  obtain ⟨pa, pc, ca, cc, ra, rc, rt⟩ := hc n r hn
  have RR := hide rt
  have HI := hide I
  have HID := hide hid
  have HOK := hide hr
  have HHI := hide hi
  clear hn hc R I hid hr rt hi
  have HCC : Hid (∀ (i : Nat) (r : Rt), all[i]? = some r → ∃ pa pc ca cc ra rc, RtAt w g (o + i * 11) r pa pc ca cc ra rc) := by
    obtain ⟨g2, o2, e, h⟩ := HR.out (by omega)
    cases e
    exact h
  clear HR
  obtain ⟨m2, hm2⟩ : ∃ m2, m2 = js.length := ⟨_, rfl⟩
  rw [← hm2] at hj ⊢
  have HM2 := hide hm2
  clear hm2
  obtain ⟨m, hm⟩ : ∃ m, m = all.length := ⟨_, rfl⟩
  rw [← hm] at ha hnl ⊢
  have HM := hide hm
  clear hm
  have zg := World.block_lt_of_cell? w _ (RR.out.1 0 _ rfl)
  simp only at zg
  have hn0 : (0 : Int) ≤ (n : Int) := Int.natCast_nonneg _
  have hnm : (n : Int) < (m : Int) := by omega
  go_enter Try.func19, Try.ntmps19
  go_wp2_with fail
  refine kept_load_intro _ _ _ (by rfl) (run_loadR_at RR.out) ?_
  go_wp2_with fail
  refine kept_alloc_intro _ (run_allocR _) ?_
  go_wp2_with fail
  refine kept_store_intro _ _ _ (.agg (rtC pa pc ca cc ra rc r)) (by rfl) (by rfl) (run_storeR (Bl.new w zR) rfl (RC.rt _ _ _ _ _ _ _)) ?_
  have b1 : Below w.heap.size w ((w.alloc (.cells zR 41)).setCells w.heap.size 0 (rtC pa pc ca cc ra rc r).toList) := below_puts ((Below.refl _ _).alloc (Nat.le_refl _) _) (Nat.le_refl _) _
  have HZ : Hid (Bl ((w.alloc (.cells zR 41)).setCells w.heap.size 0 (rtC pa pc ca cc ra rc r).toList) w.heap.size (rtC pa pc ca cc ra rc r)) := (Bl.new w zR).put rfl
  generalize (w.alloc (.cells zR 41)).setCells w.heap.size 0 (rtC pa pc ca cc ra rc r).toList = w1 at *
  have HB1 := hide b1
  have HA1 : Hid (AtRd w1 pa ca ra r.att) := RR.out.2.below b1
  have HI1 := hide (HI.out.below b1)
  have z1 := HZ.out.lt
  clear b1 zg RR HI HI1 HID HHI HOK
  have c4 : w1.cell? ⟨w.heap.size, 4, none⟩ = some (.slice pa r.att.path.length pc) := HZ.out.cell 4 rfl
  have K := hide (rfirst_any pa pc r.att.path w1 HA1.out.path)
  obtain ⟨f, b, hv, hF⟩ := first_two r.att.path
  have HF := hide hF
  rw [hv] at K
  clear hv hF
  go_wp2_with fail
  refine K.out.mono ?_
  rintro e wx ⟨rfl, rfl⟩
  clear K c4
  go_wp2_with fail
  go_loopw [16] (fun i wq => ∃ k : Nat, k ≤ m2 ∧ i = .int .i64 k ∧ Hid (Below wx.heap.size wx wq) ∧ Hid (∀ (q : Nat) (o : Rt), q < k → left[q]? = some o → lower r o = false)) (fun i _ => m2 - (intOf i).toNat)
  case atStart => exact ⟨0, Nat.zero_le _, rfl, Below.refl _ _, fun q o h => absurd h (by omega)⟩
  case round =>
    obtain ⟨k, hk, rfl, HB, HA⟩ := hrel
    by_cases hlt : k < m2
    · have hkl : k < js.length := by rw [← HM2.out]; exact hlt
      obtain ⟨t, ht, hlk⟩ := HQ.out k _ (List.getElem?_eq_getElem hkl)
      obtain ⟨pa2, pc2, ca2, cc2, ra2, rc2, r2⟩ := HCC.out _ t ht
      have HR2 : Hid (RtAt wr g (o + js[k] * 11) t pa2 pc2 ca2 cc2 ra2 rc2) := (r2.below HB1.out).below HB.out
      obtain ⟨g2, o2, rfl, hc2⟩ := HE1.out (by simp; omega)
      have cj0 := hc2 k (js[k] : Int) (by simp [hkl])
      have zg2 := World.block_lt_of_cell? w _ cj0
      simp only at zg2
      have cj : wr.cell? ⟨g2, o2 + k, none⟩ = some (.int .i64 (js[k] : Int)) := by
        rw [HB.out.cell (p := ⟨g2, o2 + k, none⟩) (by have := HB1.out.size; simp only; omega), HB1.out.cell (p := ⟨g2, o2 + k, none⟩) zg2]
        exact cj0
      have hjm1 := (List.getElem?_eq_some_iff.1 ht).1
      rw [← HM.out] at hjm1
      have HLK := hide hlk
      have HA2 : Hid (lower r t = false → ∀ (q : Nat) (o : Rt), q < k + 1 → left[q]? = some o → lower r o = false) := fun he q o hq ho => by
        by_cases e : q = k
        · subst e
          rw [HLK.out] at ho
          cases ho
          exact he
        · exact HA.out q o (by omega) ho
      generalize js[k] = j at *
      clear r2 hc2 cj0 zg2 ht hlk HA
      have hk0 : (0 : Int) ≤ (k : Int) := Int.natCast_nonneg _
      have hkn : (k : Int) < (m2 : Int) := by omega
      have hj0 : (0 : Int) ≤ (j : Int) := Int.natCast_nonneg _
      have hjm : (j : Int) < (m : Int) := by omega
      go_wp2_with fail
      refine kept_load_intro _ _ _ (by rfl) (run_loadR_at HR2.out) ?_
      go_wp2_with fail
      refine kept_alloc_intro _ (run_allocR _) ?_
      go_wp2_with fail
      refine kept_store_intro _ _ _ (.agg (rtC pa2 pc2 ca2 cc2 ra2 rc2 t)) (by rfl) (by rfl) (run_storeR (Bl.new wr zR) rfl (RC.rt _ _ _ _ _ _ _)) ?_
      have b2 : Below wr.heap.size wr ((wr.alloc (.cells zR 41)).setCells wr.heap.size 0 (rtC pa2 pc2 ca2 cc2 ra2 rc2 t).toList) := below_puts ((Below.refl _ _).alloc (Nat.le_refl _) _) (Nat.le_refl _) _
      have HY : Hid (Bl ((wr.alloc (.cells zR 41)).setCells wr.heap.size 0 (rtC pa2 pc2 ca2 cc2 ra2 rc2 t).toList) wr.heap.size (rtC pa2 pc2 ca2 cc2 ra2 rc2 t)) := (Bl.new wr zR).put rfl
      generalize (wr.alloc (.cells zR 41)).setCells wr.heap.size 0 (rtC pa2 pc2 ca2 cc2 ra2 rc2 t).toList = w2 at *
      have HB2 : Hid (Below wx.heap.size wx w2) := HB.out.trans (b2.mono HB.out.size)
      have HX2 : Hid (Bl w2 w.heap.size (rtC pa pc ca cc ra rc r)) := HZ.out.below HB2.out
      have K2 := hide (rfirst_any pa2 pc2 t.att.path w2 (HR2.out.2.below b2).path)
      have c5 : w2.cell? ⟨wr.heap.size, 4, none⟩ = some (.slice pa2 t.att.path.length pc2) := HY.out.cell 4 rfl
      obtain ⟨f2, d, hv2, hF2⟩ := first_two t.att.path
      have HLW := hide (lower_is r t HF.out hF2)
      rw [hv2] at K2
      clear hv2 hF2 b2 HB cj
      go_wp2_with fail
      refine K2.out.mono ?_
      rintro e w3 ⟨rfl, rfl⟩
      clear K2 c5
      cases b with
      | false =>
        have HN2 := hide (HA2.out (by rw [HLW.out]; simp))
        clear HA2 HLW
        go_wp2_with fail
        refine region_ord (fun W => Bl W w.heap.size (rtC pa pc ca cc ra rc r) ∧ Bl W wr.heap.size (rtC pa2 pc2 ca2 cc2 ra2 rc2 t)) (fun q => q == 12 || q == 15) [0, 1, 2, 3, 4, 5, 6, 7, 8, 9, 10, 11, 13, 14, 12, 15, 16, 17] (by kernel_rfl) (by kernel_rfl) (by rfl) (by kernel_rfl) ⟨HX2.out.below (Below.refl _ _).drew, HY.out.below (Below.refl _ _).drew⟩ ?_
        repeat first
          | refine ord_q (by rfl) (by rfl) (by rfl) (fun w9 h9 => (by clear h9; go_simp; first | done | rfl)) (by go_simp; first | done | rfl) ?_
          | refine ord_s (by rfl) (by rfl) (by rfl) (by go_simp; first | done | rfl) ?_
          | refine ord_ls (by rfl) (by rfl) (by rfl) (by go_simp; first | done | rfl) ⟨HX2.out.below (Below.refl _ _).drew, HY.out.below (Below.refl _ _).drew⟩ ?_
        refine ⟨fun _ h => (by cases h), ?_⟩
        go_wp2
        exact ⟨⟨k + 1, by omega, by go_num, HB2.out.trans ((Below.refl _ _).drew.mono HB2.out.size), HN2⟩, by simp [intOf]; omega⟩
      | true =>
        cases d with
        | false =>
          have HN2 := hide (HA2.out (by rw [HLW.out]; simp))
          clear HA2 HLW
          go_wp2_with fail
          refine region_ord (fun W => Bl W w.heap.size (rtC pa pc ca cc ra rc r) ∧ Bl W wr.heap.size (rtC pa2 pc2 ca2 cc2 ra2 rc2 t)) (fun q => q == 12 || q == 15) [0, 1, 2, 3, 4, 5, 6, 7, 8, 9, 10, 11, 13, 14, 12, 15, 16, 17] (by kernel_rfl) (by kernel_rfl) (by rfl) (by kernel_rfl) ⟨HX2.out.below (Below.refl _ _).drew, HY.out.below (Below.refl _ _).drew⟩ ?_
          repeat first
            | refine ord_q (by rfl) (by rfl) (by rfl) (fun w9 h9 => (by clear h9; go_simp; first | done | rfl)) (by go_simp; first | done | rfl) ?_
            | refine ord_s (by rfl) (by rfl) (by rfl) (by go_simp; first | done | rfl) ?_
            | refine ord_ls (by rfl) (by rfl) (by rfl) (by go_simp; first | done | rfl) ⟨HX2.out.below (Below.refl _ _).drew, HY.out.below (Below.refl _ _).drew⟩ ?_
          refine ⟨fun _ h => (by cases h), ?_⟩
          go_wp2
          exact ⟨⟨k + 1, by omega, by go_num, HB2.out.trans ((Below.refl _ _).drew.mono HB2.out.size), HN2⟩, by simp [intOf]; omega⟩
        | true =>
          by_cases hff : f = f2
          · have HD := hide (show lower r t = decide (medA t.att < medA r.att) by rw [HLW.out]; simp [hff])
            have f0 : (f == f2) = true := by simpa using hff
            clear HLW hff
            go_wp2_with fail
            refine region_ord (fun W => Bl W w.heap.size (rtC pa pc ca cc ra rc r) ∧ Bl W wr.heap.size (rtC pa2 pc2 ca2 cc2 ra2 rc2 t)) (fun q => q == 12 || q == 15) [0, 1, 2, 3, 4, 5, 6, 7, 8, 9, 10, 11, 13, 14, 12, 15, 16, 17] (by kernel_rfl) (by kernel_rfl) (by rfl) (by kernel_rfl) ⟨HX2.out.below (Below.refl _ _).drew, HY.out.below (Below.refl _ _).drew⟩ ?_
            iterate 11 refine ord_q (by rfl) (by rfl) (by rfl) (fun w9 h9 => (by clear h9; go_simp; first | done | rfl)) (by go_simp; first | done | rfl) ?_
            refine ord_q (by rfl) (by rfl) (by rfl) (fun w9 h9 => exec_loadA (by rfl) h9.2) (by go_simp; first | done | rfl) ?_
            refine ord_q (by rfl) (by rfl) (by rfl) (fun w9 h9 => (by clear h9; go_simp; first | done | rfl)) (by go_simp; first | done | rfl) ?_
            refine ord_q (by rfl) (by rfl) (by rfl) (fun w9 h9 => exec_loadA (by rfl) h9.1) (by go_simp; first | done | rfl) ?_
            refine ord_l (by rfl) (by rfl) (by rfl) ?_
            go_simp
            refine (med_any pa2 pc2 ca2 cc2 ra2 rc2 t.att w3.drew).mono ?_
            rintro e w4 ⟨rfl, hb4⟩
            have hb5 : Below w3.heap.size w3 w4 := (Below.refl _ _).drew.trans hb4
            refine ⟨⟨HX2.out.below hb5, HY.out.below hb5⟩, ?_⟩
            refine ord_l (by rfl) (by rfl) (by rfl) ?_
            go_simp
            refine (med_any pa pc ca cc ra rc r.att w4).mono ?_
            rintro e w5 ⟨rfl, hb6⟩
            have hb7 : Below w3.heap.size w3 w5 := hb5.trans (hb6.mono hb5.size)
            refine ⟨⟨HX2.out.below hb7, HY.out.below hb7⟩, ?_⟩
            have HB5 : Hid (Below wx.heap.size wx w5) := HB2.out.trans (hb7.mono HB2.out.size)
            clear hb4 hb5 hb6 hb7 HX2 HY HB2
            generalize medA t.att = ma at *
            generalize medA r.att = mb at *
            by_cases hm9 : ma < mb
            · have HE : Hid ((1 : Int) = scoreR 5 num infos left r) := by
                show _ = _
                unfold scoreR
                simp only
                rw [any_yes HLK.out (by rw [HD.out]; simpa using hm9)]
                rfl
              repeat refine ord_q (by rfl) (by rfl) (by rfl) (fun w9 h9 => (by clear h9; go_simp; first | done | rfl)) (by go_simp; first | done | rfl) ?_
              refine ⟨fun _ h => (by cases h), ?_⟩
              go_wp2
              go_ret
              exact ⟨ret_int HE.out, HB1.out.trans (HB5.out.mono HB1.out.size)⟩
            · have HN2 := hide (HA2.out (by rw [HD.out]; simpa using hm9))
              have f3 : decide (ma < mb) = false := decide_eq_false hm9
              clear HA2 HD hm9
              repeat refine ord_q (by rfl) (by rfl) (by rfl) (fun w9 h9 => (by clear h9; go_simp; first | done | rfl)) (by go_simp; first | done | rfl) ?_
              refine ⟨fun _ h => (by cases h), ?_⟩
              go_wp2
              exact ⟨⟨k + 1, by omega, by go_num, HB5, HN2⟩, by simp [intOf]; omega⟩
          · have f0 : (f == f2) = false := by simpa using hff
            have HN2 := hide (HA2.out (by rw [HLW.out]; simp [hff]))
            clear HA2 HLW
            go_wp2_with fail
            refine region_ord (fun W => Bl W w.heap.size (rtC pa pc ca cc ra rc r) ∧ Bl W wr.heap.size (rtC pa2 pc2 ca2 cc2 ra2 rc2 t)) (fun q => q == 12 || q == 15) [0, 1, 2, 3, 4, 5, 6, 7, 8, 9, 10, 11, 13, 14, 12, 15, 16, 17] (by kernel_rfl) (by kernel_rfl) (by rfl) (by kernel_rfl) ⟨HX2.out.below (Below.refl _ _).drew, HY.out.below (Below.refl _ _).drew⟩ ?_
            repeat first
              | refine ord_q (by rfl) (by rfl) (by rfl) (fun w9 h9 => (by clear h9; go_simp; first | done | rfl)) (by go_simp; first | done | rfl) ?_
              | refine ord_s (by rfl) (by rfl) (by rfl) (by go_simp; first | done | rfl) ?_
              | refine ord_ls (by rfl) (by rfl) (by rfl) (by go_simp; first | done | rfl) ⟨HX2.out.below (Below.refl _ _).drew, HY.out.below (Below.refl _ _).drew⟩ ?_
            refine ⟨fun _ h => (by cases h), ?_⟩
            go_wp2
            exact ⟨⟨k + 1, by omega, by go_num, HB2.out.trans ((Below.refl _ _).drew.mono HB2.out.size), HN2⟩, by simp [intOf]; omega⟩
    · have HE : Hid ((0 : Int) = scoreR 5 num infos left r) := by
        show _ = _
        unfold scoreR
        simp only
        rw [any_no left fun q o hq => HA.out q o (by have := (List.getElem?_eq_some_iff.1 hq).1; have := HL.out; have := HM2.out; omega) hq]
        rfl
      go_wp2
      go_ret
      exact ⟨ret_int HE.out, HB1.out.trans (HB.out.mono HB1.out.size)⟩
end
end Go.Proofs.Ytolpaimmmhoiiaa
