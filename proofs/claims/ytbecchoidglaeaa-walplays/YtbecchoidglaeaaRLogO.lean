/- The document's OpenLog. -/
import Derived.Test.YtbecchoidglaeaaRLogC
namespace Go.Proofs.Ytbecchoidglaeaa
open Go.RowKit
set_option maxRecDepth 100000

/-- The greatest generation of the first i superblocks. -/
def genUp (s : St) : Nat → Nat
  | 0 => 0
  | i + 1 => max (genUp s i) (supAt s i)
theorem genUp_two (s : St) : genUp s 2 = genAt s := by show max (max 0 (supAt s 0)) (supAt s 1) = _; unfold genAt; omega
theorem genUp_le (s : St) : ∀ i, genUp s i ≤ 2147483647
  | 0 => by show 0 ≤ _; omega
  | i + 1 => by have h1 := genUp_le s i; have h2 := supAt_le s i; show max _ _ ≤ _; omega
theorem supAt_no {s : St} {i : Nat} (h : ¬ (1 ≤ num (s.now i) ∧ num (s.now i) ≤ 2147483647 ∧ num (s.now i) % 2 = i ∧ eqB (s.now i) (sup (num (s.now i))) 64 = true)) : supAt s i = 0 := if_neg h
theorem supAt_le2 (s : St) (i : Nat) : supAt s i ≤ num (s.now i) := by unfold supAt; split <;> omega
/-- What OpenLog answers. -/
def OpenRes (w w' : World) (V : Nat) (s : St) (W P : Nat → Prop) (r : Ending) : Prop :=
  ∃ W' P', RDisk w' V (openSt s).1 W' P' ∧ RStep W P W' P' w w' ∧
    (((openSt s).2 = 0 ∧ ∃ B v, r = .returned (.tuple #[.pointer (some ⟨B, 0, none⟩), v, .int .i64 0]) ∧ LogIn w' B V (openLg s) ∧ w.heap.size ≤ B ∧ ¬ W' B ∧ ¬ P' B ∧
        RowsRd w' v (scanK (prep s).1 (fromOf s.n (genOf s)) (toOf s.n (genOf s) : Int) (genOf s)) (fun i => lenAt (prep s).1 (pos (prep s).1 (fromOf s.n (genOf s)) i)) (fun i => runs (prep s).1 (pos (prep s).1 (fromOf s.n (genOf s)) i + 1))) ∨
     ((openSt s).2 = 4 ∧ r = .returned (.tuple #[.pointer none, .slice none 0 0, .int .i64 4])))
set_option maxHeartbeats 400000 in
theorem ropen_small {w : World} {V : Nat} {s : St} {W P : Nat → Prop} (h : RDisk w V s W P) (hn : s.n < 4) :
    Calls Try.prog 13 #[.pointer (some ⟨V, 0, none⟩)] w fun r w' => r = .returned (.tuple #[.pointer none, .slice none 0 0, .int .i64 1]) ∧ w' = w := by
  obtain ⟨a, cap, c0, _⟩ := h.sectors
  have hn' : (s.n : Int) < 4 := by omega
  clear h
  go_enter Try.func13, Try.ntmps13
  go_wp2
  go_ret3
  exact ⟨rfl, rfl⟩
set_option maxRecDepth 100000 in
set_option maxHeartbeats 6400000 in
theorem ropen_in {w : World} {V : Nat} {s : St} {W P : Nat → Prop} (h : RDisk w V s W P) (hmd : Made s) (hby : Bts s) (hn : 4 ≤ s.n) (hs : s.n ≤ 120) (hlo : s.lo.length < 600000) :
    Calls Try.prog 13 #[.pointer (some ⟨V, 0, none⟩)] w fun r w' => OpenRes w w' V s W P r := by
  obtain ⟨a, cap, c0, _⟩ := h.sectors
  have hn' : (4 : Int) ≤ (s.n : Int) := by omega
  have H := hide h
  have HMD := hide hmd
  have HBy := hide hby
  have HLO := hide hlo
  clear h hmd hby hlo
  go_enter Try.func13, Try.ntmps13
  go_wp2
  go_loopw [5, 6] (fun gv iv wq => ∃ i G : Nat, i ≤ 2 ∧ iv = .int .i64 (i : Int) ∧ gv = .int .i64 (G : Int) ∧ Hid (G = genUp s i) ∧ Hid (Below w.heap.size w wq)) (fun _ iv _ => 2 - (intOf iv).toNat)
  case atStart => exact ⟨0, 0, by omega, rfl, rfl, rfl, Below.refl _ _⟩
  case round =>
    obtain ⟨i, G, hi, rfl, rfl, HG, HB⟩ := hrel
    by_cases hlt : (i : Int) < 2
    · have hi2 : i < s.n := by omega
      have HD := hide (H.out.later HB.out)
      go_wp2_with fail
      refine (rdisk_page HD.out HMD.out i hi2).mono ?_
      rintro r w1 ⟨b1, o1, c1, rfl, hcap, hcell, rfl⟩
      have HC := hide hcell
      clear hcell hcap
      go_wp2_with fail
      refine (num_eq b1 o1 64 c1 (s.now i) w1 (by omega) (fun j hj => HBy.out.now _ _) (fun j hj => HC.out j (by omega))).mono ?_
      rintro r w2 ⟨rfl, k2, rfl⟩
      have HB2 : Hid (Below w.heap.size w (w1.drewN k2)) := below_drewN HB.out k2
      have HD2 := hide (H.out.later HB2.out)
      generalize hw2 : w1.drewN k2 = w2 at *
      clear hw2
      have HNL : Hid (num (s.now i) < 4294967296) := num_lt _ (fun j _ => HBy.out.now _ _)
      have HKP : Hid ((¬ (1 ≤ num (s.now i) ∧ num (s.now i) ≤ 2147483647 ∧ num (s.now i) % 2 = i) ∨ num (s.now i) ≤ G) → G = genUp s (i + 1)) := fun h => by
        show G = max (genUp s i) (supAt s i)
        rw [← HG.out]
        rcases h with h | h
        · rw [supAt_no (fun h2 => h ⟨h2.1, h2.2.1, h2.2.2.1⟩)]; omega
        · have := supAt_le2 s i; omega
      have HNW : Hid (1 ≤ num (s.now i) ∧ num (s.now i) ≤ 2147483647 ∧ num (s.now i) % 2 = i → G < num (s.now i) → ∀ q, eqB (s.now i) (sup (num (s.now i))) 64 = q → (if q then num (s.now i) else G) = genUp s (i + 1)) := fun h1 h2 q hq => by
        show _ = max (genUp s i) (supAt s i)
        rw [← HG.out]
        cases q with
        | true => rw [show supAt s i = num (s.now i) from if_pos ⟨h1.1, h1.2.1, h1.2.2, hq⟩]; simp; omega
        | false => rw [supAt_no (fun h3 => by rw [hq] at h3; exact absurd h3.2.2.2 (by decide))]; simp
      generalize hX : num (s.now i) = X at *
      have HXX := hide hX
      clear hX
      have hX0 : (0 : Int) ≤ (X : Int) := Int.natCast_nonneg _
      by_cases hc1 : 1 ≤ X
      · have d1 : (1 : Int) ≤ (X : Int) := by omega
        have H1 := hide hc1
        clear hc1
        by_cases hc2 : X ≤ 2147483647
        · have d2 : (X : Int) ≤ 2147483647 := by omega
          have H2 := hide hc2
          clear hc2
          by_cases hc3 : X % 2 = i
          · have d3 : (((X : Int) % 2) == (i : Int)) = true := by rw [beq_iff_eq]; omega
            have H3 := hide hc3
            clear hc3
            by_cases hc4 : (G : Int) < (X : Int)
            · have HH4 := hide hc4
              go_wp2_with fail
              refine (rdisk_page HD2.out HMD.out i hi2).mono ?_
              rintro r w3 ⟨b3, o3, c3, rfl, hcap3, hcell3, rfl⟩
              have HC3 := hide hcell3
              clear hcell3 hcap3
              go_wp2_with fail
              refine (super_any X HNL.out _).mono ?_
              rintro r w4 ⟨b4, rfl, hr4, hle4, hb4⟩
              have HR4 := hide (rw_cells hr4)
              have HB4 := hide (HB2.out.trans (below_le hb4 HB2.out.size))
              have HC4 : Hid (∀ j, j < 64 → w4.cell? ⟨b3, o3 + j, none⟩ = some (.int .u8 (s.now i j : Int))) := fun j hj => by
                rw [(Keeps.of_below hb4 (fun _ => False)).cell _ (World.block_lt_of_cell? w3 _ (HC3.out j hj)) (fun h => h)]; exact HC3.out j hj
              clear hr4 hle4 hb4
              go_wp2_with fail
              refine (sameB_some b3 o3 b4 0 64 c3 64 (s.now i) (sup X) w4 (by omega) HC4.out HR4.out).mono ?_
              have hnw := HNW.out ⟨H1.out, H2.out, H3.out⟩ (by have := HH4.out; omega)
              cases hq : eqB (s.now i) (sup X) 64 with
              | true =>
                rintro r w5 ⟨rfl, m5, rfl⟩
                have HGG : Hid (X = genUp s (i + 1)) := by show X = _; have := hnw true hq; simpa using this
                clear hq hnw
                go_wp2
                exact ⟨⟨i + 1, X, by omega, by go_num, rfl, HGG, below_drewN HB4.out m5⟩, by simp [intOf]; omega⟩
              | false =>
                rintro r w5 ⟨rfl, m5, rfl⟩
                have HGG : Hid (G = genUp s (i + 1)) := by show G = _; have := hnw false hq; simpa using this
                clear hq hnw
                go_wp2
                exact ⟨⟨i + 1, G, by omega, by go_num, rfl, HGG, below_drewN HB4.out m5⟩, by simp [intOf]; omega⟩
            · have HGG : Hid (G = genUp s (i + 1)) := HKP.out (.inr (by omega))
              have d4 : decide (G < X) = false := decide_eq_false (by omega)
              clear hc4
              go_wp2
              exact ⟨⟨i + 1, G, by omega, by go_num, rfl, HGG, HB2.out⟩, by simp [intOf]; omega⟩
          · have d3 : (((X : Int) % 2) == (i : Int)) = false := by rw [beq_eq_false_iff_ne]; omega
            have HGG : Hid (G = genUp s (i + 1)) := HKP.out (.inl (fun h => hc3 h.2.2))
            clear hc3
            go_wp2
            exact ⟨⟨i + 1, G, by omega, by go_num, rfl, HGG, HB2.out⟩, by simp [intOf]; omega⟩
        · have d2 : decide ((X : Int) ≤ 2147483647) = false := decide_eq_false (by omega)
          have HGG : Hid (G = genUp s (i + 1)) := HKP.out (.inl (fun h => hc2 h.2.1))
          clear hc2
          go_wp2
          exact ⟨⟨i + 1, G, by omega, by go_num, rfl, HGG, HB2.out⟩, by simp [intOf]; omega⟩
      · have d1 : decide ((1 : Int) ≤ (X : Int)) = false := decide_eq_false (by omega)
        have HGG : Hid (G = genUp s (i + 1)) := HKP.out (.inl (fun h => hc1 h.1))
        clear hc1
        go_wp2
        exact ⟨⟨i + 1, G, by omega, by go_num, rfl, HGG, HB2.out⟩, by simp [intOf]; omega⟩
    · obtain rfl : i = 2 := by omega
      have HG2 : Hid (G = genAt s) := by show _ = _; rw [← genUp_two]; exact HG.out
      have HD := hide (H.out.later HB.out)
      have HS0 := hide (RStep.of_below (W := W) (P := P) HB.out)
      have HGA := hide (genAt_le s)
      by_cases hG0 : G = 0
      · have HGA0 : Hid (genAt s = 0) := by show genAt s = 0; rw [← HG2.out]; exact hG0
        subst hG0
        have HGE : Hid (genOf s = 1) := by show genOf s = 1; unfold genOf; rw [if_pos HGA0.out]
        have HGL : Hid (1 ≤ 2147483647) := by show 1 ≤ 2147483647; omega
        have HF1 := hide (fromOf_le s.n 1 hn)
        have HPR : Hid (prep s = andThen (andThen (s.clean (fromOf s.n 1) (half s.n)) fun t => t.wr 1 (fill (sup 1) 64)) St.fl) := by show prep s = _; unfold prep; rw [if_pos HGA0.out]
        go_wp2_with fail
        refine (bounds_any HD.out 1 hn (by omega)).mono ?_
        rintro r wb ⟨rfl, rfl⟩
        obtain ⟨Fm1, hFm1⟩ : ∃ Fm, Fm = fromOf s.n 1 := ⟨_, rfl⟩
        obtain ⟨T1, hT1⟩ : ∃ T, T = toOf s.n 1 := ⟨_, rfl⟩
        rw [← hFm1, ← hT1]
        have HE1 := hide (And.intro hFm1 hT1)
        have HM1 : Hid (half s.n = (min (T1 : Int) (s.n : Int) - (Fm1 : Int)).toNat) := by
          show _ = _
          have h1 := HF1.out
          have h2 : toOf s.n 1 = fromOf s.n 1 + half s.n := rfl
          omega
        clear hFm1 hT1
        go_wp2_with fail
        refine (rclean_any HD.out HMD.out (Fm1 : Int) (T1 : Int) Fm1 (half s.n) (by omega) HM1.out (by omega) (by have := HLO.out; omega)).mono ?_
        rintro r w3 ⟨rfl, W3, P3, hd3, hst3⟩
        have HD3 := hide hd3
        have HS3 := hide (HS0.out.trans hst3)
        have HQ3 := hide (And.intro (clean_n s Fm1 (half s.n)) (And.intro (made_clean HMD.out Fm1 (half s.n)) (And.intro (bts_clean HBy.out Fm1 (half s.n)) (clean_lo s Fm1 (half s.n)))))
        have hcc := clean_cases s Fm1 (half s.n)
        rw [← HE1.out.1] at HPR
        clear hd3 hst3
        generalize s.clean Fm1 (half s.n) = S3 at *
        rcases hcc with h3 | h3
        · have H3 := hide h3
          rw [h3]
          clear h3
          have HPR2 : Hid (prep s = andThen (S3.1.wr 1 (fill (sup 1) 64)) St.fl) := by show prep s = _; rw [HPR.out, andThen_ok H3.out]
          go_wp2_with fail
          refine (super_any 1 (by omega) _).mono ?_
          rintro r w4 ⟨b4, rfl, hr4, hle4, hb4⟩
          have HR4 := hide hr4
          have HD4 := hide (HD3.out.later hb4)
          have HS4 := hide (HS3.out.trans (RStep.of_below hb4))
          have HL4 := hide hle4
          clear hr4 hle4 hb4
          rcases wr_cases S3.1 1 (fill (sup 1) 64) with h5 | h5
          · have H5 := hide h5
            clear h5
            go_wp2_with fail
            refine (rdisk_wrc HD4.out 1 (by rw [HQ3.out.1]; omega) (some ⟨b4, 0, none⟩) 64 64 (sup 1) (by omega) (by have := HQ3.out.2.2.2; have := HLO.out; unfold half at *; omega) HR4.out (fun x hx _ => by injection hx with hx; subst hx; have := HD3.out.V; have := HL4.out; show b4 ≠ V; omega) H5.out).mono ?_
            rintro r w5 ⟨rfl, W5, P5, hd5, hst5⟩
            have HD5 := hide hd5
            have HS5 := hide (HS4.out.trans hst5)
            have HQ5 := hide (And.intro (wr_n S3.1 1 (fill (sup 1) 64)) (And.intro (made_wr HQ3.out.2.1 1 (fill (sup 1) 64)) (And.intro (HQ3.out.2.2.1.wr 1 (bts_fill (f := sup 1) (len := 64) (fun i _ => sup_lt 1 i))) (wr_lo S3.1 1 (fill (sup 1) 64)))))
            clear hd5 hst5
            generalize S3.1.wr 1 (fill (sup 1) 64) = S5 at *
            have HPR3 : Hid (prep s = S5.1.fl) := by show prep s = _; rw [HPR2.out, andThen_ok H5.out]
            rw [show ((0 : Nat) : Int) = 0 from rfl]
            go_wp2_with fail
            refine (rdisk_fl HD5.out).mono ?_
            rintro r w6 ⟨rfl, W6, P6, hd6, hst6⟩
            have HDp := hide hd6
            have HSp := hide (HS5.out.trans hst6)
            have HQ6 := hide (And.intro (fl_n S5.1) (And.intro (made_fl HQ5.out.2.1) (And.intro HQ5.out.2.2.1.fl (fl_lo S5.1))))
            have hfc := fl_cases S5.1
            clear hd6 hst6
            generalize S5.1.fl = S7 at *
            rcases hfc with h7 | h7
            · have H7 := hide h7
              rw [h7]
              clear h7
              obtain ⟨p, q⟩ := S7
              have HN0 : Hid (p.n = s.n) := by show p.n = s.n; have := HQ6.out.1; have := HQ5.out.1; have := HQ3.out.1; simp only at *; omega
              have HLO0 : Hid (p.lo.length < 700000) := by show _ < _; have := HQ6.out.2.2.2; have := HQ5.out.2.2.2; have := HQ3.out.2.2.2; have := HLO.out; unfold half at *; simp only at *; omega
              have HMp : Hid (Made p) := HQ6.out.2.1
              have HBp : Hid (Bts p) := HQ6.out.2.2.1
              have HPE : Hid (prep s = (p, 0)) := by show prep s = _; rw [HPR3.out]; have : q = 0 := H7.out; rw [this]
              have HDp : Hid (RDisk w6 V p W6 P6) := HDp
              rw [show ((0 : Nat) : Int) = 0 from rfl]
              go_wp2_with fail
              refine (bounds_any HDp.out 1 (by rw [HN0.out]; exact hn) (by rw [HN0.out]; omega)).mono ?_
              rintro r wb ⟨rfl, rfl⟩
              rw [HN0.out]
              have HFL := hide (fromOf_le s.n 1 hn)
              obtain ⟨Fm, hFm⟩ : ∃ Fm, Fm = fromOf s.n 1 := ⟨_, rfl⟩
              obtain ⟨T, hT⟩ : ∃ T, T = toOf s.n 1 := ⟨_, rfl⟩
              rw [← hFm, ← hT]
              have HFT := hide (And.intro hFm hT)
              clear hFm hT
              go_wp2_with fail
              refine (rscan_in HDp.out HMp.out HBp.out Fm 1 (T : Int) HGL.out (by rw [HN0.out]; exact hs)).mono ?_
              rintro r w5 ⟨⟨K, v, hK, rfl, hrows⟩, hb5⟩
              have HKK : Hid (K = scanK p (fromOf s.n 1) (toOf s.n 1 : Int) 1) := by
                have h1 := scanK_found p (fromOf s.n 1) (toOf s.n 1 : Int) 1
                rw [HFT.out.1, HFT.out.2] at hK
                exact found_one hK h1
              have HZZ : Hid (pos p Fm K = zOf p 1 ∧ Fm ≤ pos p Fm K ∧ pos p Fm K ≤ T) := by
                have h1 := zOf_le p 1
                have h2 : pos p Fm K = zOf p 1 := by unfold zOf; rw [HN0.out, HKK.out, HFT.out.1]
                rw [HN0.out] at h1
                refine ⟨h2, ?_, ?_⟩
                · rw [h2, HFT.out.1]; exact h1.1
                · rw [h2, HFT.out.2]; exact h1.2
              have hKn := found_bound hK
              have HROWS := hide hrows
              have HB5 := hide hb5
              have HD5 := hide (HDp.out.later hb5)
              have HS5 := hide (HSp.out.trans (RStep.of_below hb5))
              clear hK hrows hb5
              obtain ⟨Z, hZ⟩ : ∃ Z, Z = pos p Fm K := ⟨_, rfl⟩
              rw [← hZ]
              have HZ := hide hZ
              clear hZ
              go_wp2_with fail
              refine (rclean_any HD5.out HMp.out (Z : Int) (T : Int) Z (T - Z) (by omega) (by rw [HN0.out]; have h1 := HZZ.out.2; rw [← HZ.out] at h1; have h2 := HFL.out.2.1; rw [← HFT.out.2] at h2; omega) (by rw [HN0.out]; omega) (by have := HLO0.out; omega)).mono ?_
              rintro r w6 ⟨rfl, W6, P6, hd6, hst6⟩
              have HOP : Hid (openSt s = p.clean Z (T - Z)) := by
                show openSt s = _
                unfold openSt
                rw [HPE.out, HGE.out]
                show p.clean (zOf p 1) (toOf s.n 1 - zOf p 1) = _
                rw [HZ.out, HZZ.out.1, HFT.out.2]
              have HD6 := hide hd6
              have HS6 := hide (HS5.out.trans hst6)
              have HR6 := hide ((HROWS.out.keeps hst6.1 (fun b hb => HDp.out.lt b (.inl hb))).rd (by rw [HN0.out] at hKn; omega))
              have hcc := clean_cases p Z (T - Z)
              clear hd6 hst6
              generalize p.clean Z (T - Z) = S6 at *
              rcases hcc with h6 | h6
              · have H6 := hide h6
                rw [h6]
                clear h6
                go_wp2
                go_ret3
                have hbl : Below w6.heap.size w6 (w6.alloc (.cells #[.pointer (some ⟨V, 0, none⟩), .int .i64 1, .int .i64 (Z : Int), .bool false] 50)) := (Below.refl _ _).alloc (Nat.le_refl _) _
                refine ⟨W6, P6, ?_, HS6.out.trans (RStep.of_below hbl), .inl ⟨?_, w6.heap.size, v, rfl, ?_, ?_, ?_, ?_, ?_⟩⟩
                · rw [HOP.out]; exact HD6.out.later hbl
                · rw [HOP.out]; exact H6.out
                · have e : openLg s = ⟨1, Z, false⟩ := by unfold openLg; rw [HPE.out, HGE.out, HZ.out, HZZ.out.1]
                  rw [e]
                  exact heap_alloc_new w6 _
                · exact HS6.out.1.size
                · intro hb; have := HD6.out.lt _ (.inl hb); omega
                · intro hb; have := HD6.out.lt _ (.inr hb); omega
                · rw [HPE.out, HGE.out, ← HKK.out, ← HFT.out.1]
                  exact HR6.out.below hbl
              · have H6 := hide h6
                rw [h6]
                clear h6
                go_wp2
                go_ret3
                exact ⟨W6, P6, by rw [HOP.out]; exact HD6.out, HS6.out, .inr ⟨by rw [HOP.out]; exact H6.out, rfl⟩⟩
            · have H7 := hide h7
              rw [h7]
              clear h7
              go_wp2
              go_ret3
              have e : openSt s = S7 := by unfold openSt; rw [HPR3.out, andThen_no (r := S7) (by rw [H7.out]; decide)]
              exact ⟨W6, P6, by rw [e]; exact HDp.out, HSp.out, .inr ⟨by rw [e]; exact H7.out, rfl⟩⟩
          · have H5 := hide h5
            clear h5
            go_wp2_with fail
            refine (rdisk_wrc HD4.out 1 (by rw [HQ3.out.1]; omega) (some ⟨b4, 0, none⟩) 64 64 (sup 1) (by omega) (by have := HQ3.out.2.2.2; have := HLO.out; unfold half at *; omega) HR4.out (fun x hx _ => by injection hx with hx; subst hx; have := HD3.out.V; have := HL4.out; show b4 ≠ V; omega) H5.out).mono ?_
            rintro r w5 ⟨rfl, W5, P5, hd5, hst5⟩
            have HD5 := hide hd5
            have HS5 := hide (HS4.out.trans hst5)
            clear hd5 hst5
            generalize S3.1.wr 1 (fill (sup 1) 64) = S5 at *
            have e : openSt s = S5 := by unfold openSt; rw [HPR2.out, andThen_no (r := S5) (by rw [H5.out]; decide), andThen_no (r := S5) (by rw [H5.out]; decide)]
            have HEE := hide e
            clear e
            go_wp2
            go_ret3
            exact ⟨W5, P5, by rw [HEE.out]; exact HD5.out, HS5.out, .inr ⟨by rw [HEE.out]; exact H5.out, rfl⟩⟩
        · have H3 := hide h3
          rw [h3]
          clear h3
          have e : openSt s = S3 := by unfold openSt; rw [HPR.out, andThen_no (r := S3) (by rw [H3.out]; decide), andThen_no (r := S3) (by rw [H3.out]; decide), andThen_no (r := S3) (by rw [H3.out]; decide)]
          have HEE := hide e
          clear e
          go_wp2
          go_ret3
          exact ⟨W3, P3, by rw [HEE.out]; exact HD3.out, HS3.out, .inr ⟨by rw [HEE.out]; exact H3.out, rfl⟩⟩
      · have e0 : ((G : Int) == 0) = false := by rw [beq_eq_false_iff_ne]; omega
        have HPE0 : Hid (prep s = (s, 0)) := by show prep s = _; unfold prep; rw [if_neg (by rw [← HG2.out]; exact hG0)]
        have HGE : Hid (genOf s = G) := by show genOf s = _; unfold genOf; rw [if_neg (by rw [← HG2.out]; exact hG0)]; exact HG2.out.symm
        have HGL : Hid (G ≤ 2147483647) := by show _ ≤ _; rw [HG2.out]; exact HGA.out
        obtain ⟨p, hpe⟩ : ∃ p : St, p = s := ⟨s, rfl⟩
        have HN0 : Hid (p.n = s.n) := by show p.n = s.n; rw [hpe]
        have HLO0 : Hid (p.lo.length < 700000) := by show _ < _; rw [hpe]; have := HLO.out; omega
        have HDp : Hid (RDisk wr V p W P) := by rw [hpe]; exact HD
        have HMp : Hid (Made p) := by rw [hpe]; exact HMD
        have HBp : Hid (Bts p) := by rw [hpe]; exact HBy
        have HPE : Hid (prep s = (p, 0)) := by rw [hpe]; exact HPE0
        clear hG0 hpe HPE0
        go_wp2_with fail
        refine (bounds_any HDp.out G (by rw [HN0.out]; exact hn) (by rw [HN0.out]; omega)).mono ?_
        rintro r wb ⟨rfl, rfl⟩
        rw [HN0.out]
        have HFL := hide (fromOf_le s.n G hn)
        obtain ⟨Fm, hFm⟩ : ∃ Fm, Fm = fromOf s.n G := ⟨_, rfl⟩
        obtain ⟨T, hT⟩ : ∃ T, T = toOf s.n G := ⟨_, rfl⟩
        rw [← hFm, ← hT]
        have HFT := hide (And.intro hFm hT)
        clear hFm hT
        go_wp2_with fail
        refine (rscan_in HDp.out HMp.out HBp.out Fm G (T : Int) HGL.out (by rw [HN0.out]; exact hs)).mono ?_
        rintro r w5 ⟨⟨K, v, hK, rfl, hrows⟩, hb5⟩
        have HKK : Hid (K = scanK p (fromOf s.n G) (toOf s.n G : Int) G) := by
          have h1 := scanK_found p (fromOf s.n G) (toOf s.n G : Int) G
          rw [HFT.out.1, HFT.out.2] at hK
          exact found_one hK h1
        have HZZ : Hid (pos p Fm K = zOf p G ∧ Fm ≤ pos p Fm K ∧ pos p Fm K ≤ T) := by
          have h1 := zOf_le p G
          have h2 : pos p Fm K = zOf p G := by unfold zOf; rw [HN0.out, HKK.out, HFT.out.1]
          rw [HN0.out] at h1
          refine ⟨h2, ?_, ?_⟩
          · rw [h2, HFT.out.1]; exact h1.1
          · rw [h2, HFT.out.2]; exact h1.2
        have hKn := found_bound hK
        have HROWS := hide hrows
        have HB5 := hide hb5
        have HD5 := hide (HDp.out.later hb5)
        have HS5 := hide (HS0.out.trans (RStep.of_below hb5))
        clear hK hrows hb5
        obtain ⟨Z, hZ⟩ : ∃ Z, Z = pos p Fm K := ⟨_, rfl⟩
        rw [← hZ]
        have HZ := hide hZ
        clear hZ
        go_wp2_with fail
        refine (rclean_any HD5.out HMp.out (Z : Int) (T : Int) Z (T - Z) (by omega) (by rw [HN0.out]; have h1 := HZZ.out.2; rw [← HZ.out] at h1; have h2 := HFL.out.2.1; rw [← HFT.out.2] at h2; omega) (by rw [HN0.out]; omega) (by have := HLO0.out; omega)).mono ?_
        rintro r w6 ⟨rfl, W6, P6, hd6, hst6⟩
        have HOP : Hid (openSt s = p.clean Z (T - Z)) := by
          show openSt s = _
          unfold openSt
          rw [HPE.out, HGE.out]
          show p.clean (zOf p G) (toOf s.n G - zOf p G) = _
          rw [HZ.out, HZZ.out.1, HFT.out.2]
        have HD6 := hide hd6
        have HS6 := hide (HS5.out.trans hst6)
        have HR6 := hide ((HROWS.out.keeps hst6.1 (fun b hb => HDp.out.lt b (.inl hb))).rd (by rw [HN0.out] at hKn; omega))
        have hcc := clean_cases p Z (T - Z)
        clear hd6 hst6
        generalize p.clean Z (T - Z) = S6 at *
        rcases hcc with h6 | h6
        · have H6 := hide h6
          rw [h6]
          clear h6
          go_wp2
          go_ret3
          have hbl : Below w6.heap.size w6 (w6.alloc (.cells #[.pointer (some ⟨V, 0, none⟩), .int .i64 (G : Int), .int .i64 (Z : Int), .bool false] 50)) := (Below.refl _ _).alloc (Nat.le_refl _) _
          refine ⟨W6, P6, ?_, HS6.out.trans (RStep.of_below hbl), .inl ⟨?_, w6.heap.size, v, rfl, ?_, ?_, ?_, ?_, ?_⟩⟩
          · rw [HOP.out]; exact HD6.out.later hbl
          · rw [HOP.out]; exact H6.out
          · have e : openLg s = ⟨G, Z, false⟩ := by unfold openLg; rw [HPE.out, HGE.out, HZ.out, HZZ.out.1]
            rw [e]
            exact heap_alloc_new w6 _
          · exact HS6.out.1.size
          · intro hb; have := HD6.out.lt _ (.inl hb); omega
          · intro hb; have := HD6.out.lt _ (.inr hb); omega
          · rw [HPE.out, HGE.out, ← HKK.out, ← HFT.out.1]
            exact HR6.out.below hbl
        · have H6 := hide h6
          rw [h6]
          clear h6
          go_wp2
          go_ret3
          exact ⟨W6, P6, by rw [HOP.out]; exact HD6.out, HS6.out, .inr ⟨by rw [HOP.out]; exact H6.out, rfl⟩⟩
end Go.Proofs.Ytbecchoidglaeaa
