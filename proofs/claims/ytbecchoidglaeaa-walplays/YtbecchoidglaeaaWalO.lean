/- The program's begin and Open. -/
import Derived.Test.YtbecchoidglaeaaWalC
import Derived.Test.YtbecchoidglaeaaGWalS
namespace Go.Proofs.Ytbecchoidglaeaa
open Go.RowKit
set_option maxRecDepth 100000

/-- begin: region 1 is cleaned, the superblock of generation 1 is written. -/
def beginSt (s : St) : St × Nat := andThen (s.clean (fromOf s.n 1) (half s.n)) fun t => t.mark 1
theorem prep_begin {s : St} (h : genAt s = 0) : prep s = beginSt s := by
  unfold prep beginSt St.mark
  rw [if_pos h, andThen_assoc]
theorem begin_cases (s : St) : (beginSt s).2 = 0 ∨ (beginSt s).2 = 4 := by
  unfold beginSt
  rcases clean_cases s (fromOf s.n 1) (half s.n) with h | h
  · rw [andThen_ok h]; exact mark_cases _ _
  · rw [andThen_no (by rw [h]; decide)]; exact .inr h
theorem mark_n (s : St) (g : Nat) : (s.mark g).1.n = s.n := by
  unfold St.mark andThen
  split
  · rw [fl_n, wr_n]
  · rw [wr_n]
theorem mark_lo (s : St) (g : Nat) : (s.mark g).1.lo.length ≤ s.lo.length + 1 := by
  have h1 := wr_lo s (g % 2) (fill (sup g) 64)
  unfold St.mark andThen
  split
  · have := fl_lo (s.wr (g % 2) (fill (sup g) 64)).1; omega
  · exact h1
theorem bts_mark {s : St} (h : Bts s) (g : Nat) : Bts (s.mark g).1 := by
  have h1 := h.wr (g % 2) (bts_fill (f := sup g) (len := 64) (fun i _ => sup_lt g i))
  unfold St.mark andThen
  split
  · exact h1.fl
  · exact h1
theorem made_mark {s : St} (h : Made s) (g : Nat) : Made (s.mark g).1 := by
  have h1 := made_wr h (g % 2) (fill (sup g) 64)
  unfold St.mark andThen
  split
  · exact made_fl h1
  · exact h1
theorem begin_n (s : St) : (beginSt s).1.n = s.n := by
  unfold beginSt andThen
  split
  · rw [mark_n, clean_n]
  · rw [clean_n]
theorem begin_lo (s : St) : (beginSt s).1.lo.length ≤ s.lo.length + half s.n + 1 := by
  have h1 := clean_lo s (fromOf s.n 1) (half s.n)
  unfold beginSt andThen
  split
  · have h2 := mark_lo (s.clean (fromOf s.n 1) (half s.n)).1 1
    show ((s.clean (fromOf s.n 1) (half s.n)).1.mark 1).1.lo.length ≤ _
    omega
  · omega
theorem bts_begin {s : St} (h : Bts s) : Bts (beginSt s).1 := by
  have h1 := bts_clean h (fromOf s.n 1) (half s.n)
  unfold beginSt andThen
  split
  · exact bts_mark h1 1
  · exact h1
theorem made_begin {s : St} (h : Made s) : Made (beginSt s).1 := by
  have h1 := made_clean h (fromOf s.n 1) (half s.n)
  unfold beginSt andThen
  split
  · exact made_mark h1 1
  · exact h1
section
variable {w : World} {D : Nat} {s : St} {F : Nat → Prop}
set_option maxHeartbeats 1600000 in
theorem begin_any (h : Disk w D s F) (hn : 4 ≤ s.n) (hs : s.n ≤ 1024) (hlo : s.lo.length < 700000) :
    Calls Try.prog 33 #[.pointer (some ⟨D, 0, none⟩)] w fun r w' => r = .returned (.int .i64 ((beginSt s).2 : Int)) ∧ ∃ F', Disk w' D (beginSt s).1 F' ∧ Step F F' w w' := by
  have H := hide h
  have HN := hide (And.intro hn hs)
  have HLO := hide hlo
  have HFL := hide (fromOf_le s.n 1 hn)
  have HTO : Hid (toOf s.n 1 = fromOf s.n 1 + half s.n) := rfl
  have HBG : Hid (beginSt s = andThen (s.clean (fromOf s.n 1) (half s.n)) fun t => t.mark 1) := rfl
  have HHF : Hid (half s.n ≤ 1024) := by show half s.n ≤ 1024; unfold half; omega
  clear h hn hs hlo
  go_enter Try.func33, Try.ntmps33
  go_wp2_with fail
  refine (rof_any H.out 1 HN.out.1 HN.out.2).mono ?_
  rintro e w ⟨rfl, hw1⟩
  subst hw1
  obtain ⟨Fm, hFm⟩ : ∃ Fm, Fm = fromOf s.n 1 := ⟨_, rfl⟩
  obtain ⟨T, hT⟩ : ∃ T, T = toOf s.n 1 := ⟨_, rfl⟩
  rw [← hFm, ← hT]
  rw [← hFm, ← hT] at HFL HTO
  rw [← hFm] at HBG
  clear hFm hT
  go_wp2_with fail
  refine (clean_any H.out (Fm : Int) (T : Int) Fm (half s.n) (by omega) (by have := HFL.out; have := HTO.out; have := HN.out; omega) HN.out.2 (by have := HLO.out; omega)).mono ?_
  rintro e w1 ⟨rfl, F1, hd1, hst1⟩
  have HD1 := hide hd1
  have HS1 := hide hst1
  have HQ1 := hide (And.intro (clean_n s Fm (half s.n)) (clean_lo s Fm (half s.n)))
  have hcc := clean_cases s Fm (half s.n)
  clear hd1 hst1
  generalize s.clean Fm (half s.n) = S1 at *
  rcases hcc with h1 | h1
  · have H1 := hide h1
    rw [h1]
    clear h1
    have HB2 : Hid (beginSt s = S1.1.mark 1) := by show _ = _; rw [HBG.out, andThen_ok H1.out]
    go_wp2_with fail
    refine (mark_any HD1.out 1 (by omega) (by rw [HQ1.out.1]; exact HN.out.1) (by have := HQ1.out.2; have := HLO.out; have := HHF.out; omega)).mono ?_
    rintro e w2 ⟨rfl, F2, hd2, hst2⟩
    have HD2 := hide hd2
    have HS2 := hide (HS1.out.trans hst2)
    clear hd2 hst2
    go_wp2
    go_ret
    rw [HB2.out]
    exact ⟨rfl, F2, HD2.out, HS2.out⟩
  · have H1 := hide h1
    rw [h1]
    clear h1
    have HB2 : Hid (beginSt s = S1) := by show _ = _; rw [HBG.out, andThen_no (by rw [H1.out]; decide)]
    go_wp2
    go_ret
    rw [HB2.out, H1.out]
    exact ⟨rfl, F1, HD1.out, HS1.out⟩
end
/-- What Open answers. -/
def POpenRes (w w' : World) (D : Nat) (s : St) (F : Nat → Prop) (r : Ending) : Prop :=
  ∃ F', Disk w' D (openSt s).1 F' ∧ Step F F' w w' ∧
    (((openSt s).2 = 0 ∧ ∃ B v, r = .returned (.tuple #[.pointer (some ⟨B, 0, none⟩), v, .int .i64 0]) ∧ PLogIn w' B D (openLg s) ∧ w.heap.size ≤ B ∧ ¬ F' B ∧
        ∃ B0, w.heap.size ≤ B0 ∧ RowsIn w' B0 v (scanK (prep s).1 (fromOf s.n (genOf s)) (toOf s.n (genOf s) : Int) (genOf s)) (fun i => lenAt (prep s).1 (pos (prep s).1 (fromOf s.n (genOf s)) i)) (fun i => runs (prep s).1 (pos (prep s).1 (fromOf s.n (genOf s)) i + 1))) ∨
     ((openSt s).2 = 4 ∧ r = .returned (.tuple #[.pointer none, .slice none 0 0, .int .i64 4])))
set_option maxHeartbeats 400000 in
theorem open_nil (w : World) : Calls Try.prog 12 #[.pointer none] w fun r w' => r = .returned (.tuple #[.pointer none, .slice none 0 0, .int .i64 1]) ∧ w' = w := by
  go_enter Try.func12, Try.ntmps12
  go_wp2_with fail
  refine (len_nil _).mono ?_
  rintro e w1 ⟨rfl, rfl⟩
  go_wp2
  go_ret3
  exact ⟨rfl, rfl⟩
set_option maxHeartbeats 400000 in
theorem open_small {w : World} {D : Nat} {s : St} {F : Nat → Prop} (h : Disk w D s F) (hn : s.n < 4) :
    Calls Try.prog 12 #[.pointer (some ⟨D, 0, none⟩)] w fun r w' => r = .returned (.tuple #[.pointer none, .slice none 0 0, .int .i64 1]) ∧ w' = w := by
  have hn' : (s.n : Int) < 4 := by omega
  have H := hide h
  clear h hn
  go_enter Try.func12, Try.ntmps12
  go_wp2_with fail
  refine (disk_len H.out).mono ?_
  rintro e w1 ⟨rfl, rfl⟩
  go_wp2
  go_ret3
  exact ⟨rfl, rfl⟩
set_option maxHeartbeats 6400000 in
theorem open_in {w : World} {D : Nat} {s : St} {F : Nat → Prop} (h : Disk w D s F) (hby : Bts s) (hn : 4 ≤ s.n) (hs : s.n ≤ 1024) (hlo : s.lo.length < 600000) :
    Calls Try.prog 12 #[.pointer (some ⟨D, 0, none⟩)] w fun r w' => POpenRes w w' D s F r := by
  have H := hide h
  have HBy := hide hby
  have HN := hide (And.intro hn hs)
  have HLO := hide hlo
  have hn' : (4 : Int) ≤ (s.n : Int) := by omega
  have HHF : Hid (half s.n ≤ 1024) := by show half s.n ≤ 1024; unfold half; omega
  clear h hby hn hs hlo
  go_enter Try.func12, Try.ntmps12
  go_wp2_with fail
  refine (disk_len H.out).mono ?_
  rintro e w ⟨rfl, hw1⟩
  subst hw1
  go_wp2_with fail
  refine (counting_any H.out HBy.out.byt HN.out.1).mono ?_
  rintro e w1 ⟨rfl, hb1⟩
  have HD1 := hide (H.out.later hb1)
  have HS1 : Hid (Step F F w w1) := Step.of_below hb1
  have HGA := hide (genAt_le s)
  obtain ⟨G, hG⟩ : ∃ G, G = genAt s := ⟨_, rfl⟩
  rw [← hG]
  have HG2 := hide hG
  clear hb1 hG
  by_cases hG0 : (G : Int) < 1
  · have HGA0 : Hid (genAt s = 0) := by show _ = 0; rw [← HG2.out]; omega
    have HGE : Hid (genOf s = 1) := by show genOf s = 1; unfold genOf; rw [if_pos HGA0.out]
    have HGL : Hid (1 ≤ 2147483647) := by show 1 ≤ 2147483647; omega
    have HPR := hide (prep_begin HGA0.out)
    go_wp2_with fail
    refine (begin_any HD1.out HN.out.1 HN.out.2 (by have := HLO.out; omega)).mono ?_
    rintro e w2 ⟨rfl, F2, hd2, hst2⟩
    have HD2 := hide hd2
    have HSp := hide (HS1.out.trans hst2)
    have HQ2 := hide (And.intro (begin_n s) (And.intro (begin_lo s) (bts_begin HBy.out)))
    have hbc := begin_cases s
    clear hd2 hst2
    generalize beginSt s = S2 at *
    rcases hbc with h2 | h2
    · have H2 := hide h2
      rw [h2]
      clear h2
      obtain ⟨p, q⟩ := S2
      have HN0 : Hid (p.n = s.n) := HQ2.out.1
      have HLO0 : Hid (p.lo.length < 700000) := by show _ < _; have := HQ2.out.2.1; have := HLO.out; have := HHF.out; simp only at *; omega
      have HBp : Hid (Bts p) := HQ2.out.2.2
      have HPE : Hid (prep s = (p, 0)) := by show prep s = _; rw [HPR.out]; have : q = 0 := H2.out; rw [this]
      have HDp : Hid (Disk w2 D p F2) := HD2
      rw [show ((0 : Nat) : Int) = 0 from rfl]
      go_wp2_with fail
      refine (rof_any HDp.out 1 (by rw [HN0.out]; exact HN.out.1) (by rw [HN0.out]; exact HN.out.2)).mono ?_
      rintro r wb ⟨rfl, hwb⟩
      subst hwb
      rw [HN0.out]
      have HFL := hide (fromOf_le s.n 1 HN.out.1)
      have HFL2 : Hid (fromOf s.n 1 < s.n) := by
        show _ < _
        have h1 := HFL.out
        have h2 : toOf s.n 1 = fromOf s.n 1 + half s.n := rfl
        omega
      obtain ⟨Fm, hFm⟩ : ∃ Fm, Fm = fromOf s.n 1 := ⟨_, rfl⟩
      obtain ⟨T, hT⟩ : ∃ T, T = toOf s.n 1 := ⟨_, rfl⟩
      rw [← hFm, ← hT]
      have HFT := hide (And.intro hFm hT)
      clear hFm hT
      go_wp2_with fail
      refine (scan_in HDp.out Fm 1 (T : Int) HGL.out (by rw [HN0.out]; exact HN.out.2) (by rw [HN0.out, HFT.out.1]; exact HFL2.out) HBp.out.byt).mono ?_
      rintro r w5 ⟨⟨K, v, hK, rfl, hrows⟩, hb5⟩
      have HKK : Hid (K = scanK p (fromOf s.n 1) (toOf s.n 1 : Int) 1) := by
        have h1 := scanK_found p (fromOf s.n 1) (toOf s.n 1 : Int) 1
        rw [HFT.out.1, HFT.out.2] at hK
        exact found_one hK h1
      have HZZ : Hid (pos p Fm K = zOf p 1 ∧ Fm ≤ pos p Fm K ∧ pos p Fm K ≤ T) := by
        have h1 := zOf_le p 1
        have h2 : pos p Fm K = zOf p 1 := by unfold zOf; rw [HN0.out, HKK.out, HFT.out.1]
        rw [HN0.out] at h1
        refine ⟨h2, ?_, ?_⟩
        · rw [h2, HFT.out.1]; exact h1.1
        · rw [h2, HFT.out.2]; exact h1.2
      have HROWS := hide hrows
      have HB5 := hide hb5
      have HD5 := hide (HDp.out.later hb5)
      have HS5 := hide (HSp.out.trans (Step.of_below hb5))
      clear hK hrows hb5
      obtain ⟨Z, hZ⟩ : ∃ Z, Z = pos p Fm K := ⟨_, rfl⟩
      rw [← hZ]
      have HZ := hide hZ
      clear hZ
      go_wp2_with fail
      refine (clean_any HD5.out (Z : Int) (T : Int) Z (T - Z) (by omega) (by rw [HN0.out]; have h1 := HZZ.out.2; rw [← HZ.out] at h1; have h2 := HFL.out.2.1; rw [← HFT.out.2] at h2; omega) (by rw [HN0.out]; exact HN.out.2) (by have := HLO0.out; omega)).mono ?_
      rintro r w6 ⟨rfl, F6, hd6, hst6⟩
      have HOP : Hid (openSt s = p.clean Z (T - Z)) := by
        show openSt s = _
        unfold openSt
        rw [HPE.out, HGE.out]
        show p.clean (zOf p 1) (toOf s.n 1 - zOf p 1) = _
        rw [HZ.out, HZZ.out.1, HFT.out.2]
      have HD6 := hide hd6
      have HS6 := hide (HS5.out.trans hst6)
      have HR6 := hide (HROWS.out.keeps hst6.1 (fun b hb => HDp.out.lt b hb))
      have hcc := clean_cases p Z (T - Z)
      clear hd6 hst6
      generalize p.clean Z (T - Z) = S6 at *
      rcases hcc with h6 | h6
      · have H6 := hide h6
        rw [h6]
        clear h6
        go_wp2
        go_ret3
        have hbl : Below w6.heap.size w6 (w6.alloc (.cells #[.pointer (some ⟨D, 0, none⟩), .int .i64 1, .int .i64 (Z : Int), .bool false] 79)) := (Below.refl _ _).alloc (Nat.le_refl _) _
        refine ⟨F6, ?_, HS6.out.trans (Step.of_below hbl), .inl ⟨?_, w6.heap.size, v, rfl, ?_, ?_, ?_, ?_⟩⟩
        · rw [HOP.out]; exact HD6.out.later hbl
        · rw [HOP.out]; exact H6.out
        · have e : openLg s = ⟨1, Z, false⟩ := by unfold openLg; rw [HPE.out, HGE.out, HZ.out, HZZ.out.1]
          rw [e]
          exact heap_alloc_new w6 _
        · exact HS6.out.1.size
        · intro hb; have := HD6.out.lt _ hb; omega
        · rw [HPE.out, HGE.out, ← HKK.out, ← HFT.out.1]
          exact ⟨_, HSp.out.1.size, HR6.out.below hbl⟩
      · have H6 := hide h6
        rw [h6]
        clear h6
        go_wp2
        go_ret3
        exact ⟨F6, by rw [HOP.out]; exact HD6.out, HS6.out, .inr ⟨by rw [HOP.out]; exact H6.out, rfl⟩⟩
    · have H2 := hide h2
      rw [h2]
      clear h2
      have e : openSt s = S2 := by unfold openSt; rw [HPR.out, andThen_no (r := S2) (by rw [H2.out]; decide)]
      have HEE := hide e
      clear e
      go_wp2
      go_ret3
      exact ⟨F2, by rw [HEE.out]; exact HD2.out, HSp.out, .inr ⟨by rw [HEE.out]; exact H2.out, rfl⟩⟩
  · have HPE0 : Hid (prep s = (s, 0)) := by show prep s = _; unfold prep; rw [if_neg (by rw [← HG2.out]; omega)]
    have HGE : Hid (genOf s = G) := by show genOf s = _; unfold genOf; rw [if_neg (by rw [← HG2.out]; omega)]; exact HG2.out.symm
    have HGL : Hid (G ≤ 2147483647) := by show _ ≤ _; rw [HG2.out]; exact HGA.out
    obtain ⟨p, hpe⟩ : ∃ p : St, p = s := ⟨s, rfl⟩
    have HN0 : Hid (p.n = s.n) := by show p.n = s.n; rw [hpe]
    have HLO0 : Hid (p.lo.length < 700000) := by show _ < _; rw [hpe]; have := HLO.out; omega
    have HDp : Hid (Disk w1 D p F) := by rw [hpe]; exact HD1
    have HBp : Hid (Bts p) := by rw [hpe]; exact HBy
    have HPE : Hid (prep s = (p, 0)) := by rw [hpe]; exact HPE0
    have HSp := HS1
    clear hpe HPE0
    go_wp2_with fail
    refine (rof_any HDp.out G (by rw [HN0.out]; exact HN.out.1) (by rw [HN0.out]; exact HN.out.2)).mono ?_
    rintro r wb ⟨rfl, hwb⟩
    subst hwb
    rw [HN0.out]
    have HFL := hide (fromOf_le s.n G HN.out.1)
    have HFL2 : Hid (fromOf s.n G < s.n) := by
      show _ < _
      have h1 := HFL.out
      have h2 : toOf s.n G = fromOf s.n G + half s.n := rfl
      omega
    obtain ⟨Fm, hFm⟩ : ∃ Fm, Fm = fromOf s.n G := ⟨_, rfl⟩
    obtain ⟨T, hT⟩ : ∃ T, T = toOf s.n G := ⟨_, rfl⟩
    rw [← hFm, ← hT]
    have HFT := hide (And.intro hFm hT)
    clear hFm hT
    go_wp2_with fail
    refine (scan_in HDp.out Fm G (T : Int) HGL.out (by rw [HN0.out]; exact HN.out.2) (by rw [HN0.out, HFT.out.1]; exact HFL2.out) HBp.out.byt).mono ?_
    rintro r w5 ⟨⟨K, v, hK, rfl, hrows⟩, hb5⟩
    have HKK : Hid (K = scanK p (fromOf s.n G) (toOf s.n G : Int) G) := by
      have h1 := scanK_found p (fromOf s.n G) (toOf s.n G : Int) G
      rw [HFT.out.1, HFT.out.2] at hK
      exact found_one hK h1
    have HZZ : Hid (pos p Fm K = zOf p G ∧ Fm ≤ pos p Fm K ∧ pos p Fm K ≤ T) := by
      have h1 := zOf_le p G
      have h2 : pos p Fm K = zOf p G := by unfold zOf; rw [HN0.out, HKK.out, HFT.out.1]
      rw [HN0.out] at h1
      refine ⟨h2, ?_, ?_⟩
      · rw [h2, HFT.out.1]; exact h1.1
      · rw [h2, HFT.out.2]; exact h1.2
    have HROWS := hide hrows
    have HB5 := hide hb5
    have HD5 := hide (HDp.out.later hb5)
    have HS5 := hide (HSp.out.trans (Step.of_below hb5))
    clear hK hrows hb5
    obtain ⟨Z, hZ⟩ : ∃ Z, Z = pos p Fm K := ⟨_, rfl⟩
    rw [← hZ]
    have HZ := hide hZ
    clear hZ
    go_wp2_with fail
    refine (clean_any HD5.out (Z : Int) (T : Int) Z (T - Z) (by omega) (by rw [HN0.out]; have h1 := HZZ.out.2; rw [← HZ.out] at h1; have h2 := HFL.out.2.1; rw [← HFT.out.2] at h2; omega) (by rw [HN0.out]; exact HN.out.2) (by have := HLO0.out; omega)).mono ?_
    rintro r w6 ⟨rfl, F6, hd6, hst6⟩
    have HOP : Hid (openSt s = p.clean Z (T - Z)) := by
      show openSt s = _
      unfold openSt
      rw [HPE.out, HGE.out]
      show p.clean (zOf p G) (toOf s.n G - zOf p G) = _
      rw [HZ.out, HZZ.out.1, HFT.out.2]
    have HD6 := hide hd6
    have HS6 := hide (HS5.out.trans hst6)
    have HR6 := hide (HROWS.out.keeps hst6.1 (fun b hb => HDp.out.lt b hb))
    have hcc := clean_cases p Z (T - Z)
    clear hd6 hst6
    generalize p.clean Z (T - Z) = S6 at *
    rcases hcc with h6 | h6
    · have H6 := hide h6
      rw [h6]
      clear h6
      go_wp2
      go_ret3
      have hbl : Below w6.heap.size w6 (w6.alloc (.cells #[.pointer (some ⟨D, 0, none⟩), .int .i64 (G : Int), .int .i64 (Z : Int), .bool false] 79)) := (Below.refl _ _).alloc (Nat.le_refl _) _
      refine ⟨F6, ?_, HS6.out.trans (Step.of_below hbl), .inl ⟨?_, w6.heap.size, v, rfl, ?_, ?_, ?_, ?_⟩⟩
      · rw [HOP.out]; exact HD6.out.later hbl
      · rw [HOP.out]; exact H6.out
      · have e : openLg s = ⟨G, Z, false⟩ := by unfold openLg; rw [HPE.out, HGE.out, HZ.out, HZZ.out.1]
        rw [e]
        exact heap_alloc_new w6 _
      · exact HS6.out.1.size
      · intro hb; have := HD6.out.lt _ hb; omega
      · rw [HPE.out, HGE.out, ← HKK.out, ← HFT.out.1]
        exact ⟨_, HSp.out.1.size, HR6.out.below hbl⟩
    · have H6 := hide h6
      rw [h6]
      clear h6
      go_wp2
      go_ret3
      exact ⟨F6, by rw [HOP.out]; exact HD6.out, HS6.out, .inr ⟨by rw [HOP.out]; exact H6.out, rfl⟩⟩
end Go.Proofs.Ytbecchoidglaeaa
