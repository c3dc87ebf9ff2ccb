/- The document's Checkpoint. -/
import Derived.Test.YtbecchoidglaeaaRLogA
namespace Go.Proofs.Ytbecchoidglaeaa
open Go.RowKit
set_option maxRecDepth 100000

/-- What Checkpoint answers. -/
def ChkRes (w w' : World) (B V : Nat) (g : Lg) (s : St) (W P : Nat → Prop) (f : Nat → Nat) (len : Nat) (r : Ending) : Prop :=
  r = .returned (.int .i64 ((g.check s f len).2 : Int)) ∧ ∃ W' P', RLog w' B V (g.check s f len).1.2 (g.check s f len).1.1 W' P' ∧ LStep B W P W' P' w w'
theorem rdisk_wrc {w : World} {V : Nat} {s : St} {W P : Nat → Prop} (h : RDisk w V s W P) (i : Nat) (hi : i < s.n) (a : Option Addr) (len cap : Nat) (f : Nat → Nat) (hl : len ≤ 64) (hm : s.lo.length < 1000000) (hr : Rw w a len f) (ha : ∀ x, a = some x → 0 < len → x.block ≠ V) {c : Nat} (hc : (s.wr i (fill f len)).2 = c) :
    Calls Try.prog 43 #[.pointer (some ⟨V, 0, none⟩), .int .i64 (i : Int), .slice a len cap] w fun e w' =>
      e = .returned (.int .i64 (c : Int)) ∧ ∃ W' P', RDisk w' V (s.wr i (fill f len)).1 W' P' ∧ RStep W P W' P' w w' := by
  have := rdisk_wr h (i : Int) (by omega) (by omega) a len cap f hl hm hr ha
  rw [Int.toNat_natCast, hc] at this
  exact this
/-- Something failed: the log is down. -/
theorem chk_dead {w wA : World} {B V : Nat} {g : Lg} {s : St} {W P W' P' : Nat → Prop} {f : Nat → Nat} {len : Nat} {S : St × Nat} (hc : g.check s f len = ((S.1, { g with down := true }), 4)) (h : RLog wA B V g S.1 W' P') (hst : LStep B W P W' P' w wA) :
    ChkRes w (wA.setCell ⟨B, 3, none⟩ (.bool true)) B V g s W P f len (.returned (.int .i64 4)) := by
  unfold ChkRes
  rw [hc]
  exact ⟨rfl, W', P', app_dead h, hst.trans (LStep.own ((Keeps.refl (fun b => b = B) _).setCell B 3 _ (.inl rfl)))⟩
/-- All went well. -/
theorem chk_good {w wA : World} {B V : Nat} {g : Lg} {s S : St} {W P W' P' : Nat → Prop} {f : Nat → Nat} {len a : Nat} {x z : Int} (hc : g.check s f len = ((S, ⟨g.gen + 1, a, false⟩), 0)) (hx : x = ((g.gen + 1 : Nat) : Int)) (hz : z = (a : Int)) (h : RLog wA B V g S W' P') (hst : LStep B W P W' P' w wA) :
    ChkRes w (((wA.setCell ⟨B, 1, none⟩ (.int .i64 x)).setCell ⟨B, 2, none⟩ (.int .i64 z)).setCell ⟨B, 3, none⟩ (.bool false)) B V g s W P f len (.returned (.int .i64 0)) := by
  unfold ChkRes
  rw [hc]
  subst hx hz
  have hk : Keeps (fun b => b = B) wA (((wA.setCell ⟨B, 1, none⟩ (.int .i64 ((g.gen + 1 : Nat) : Int))).setCell ⟨B, 2, none⟩ (.int .i64 (a : Int))).setCell ⟨B, 3, none⟩ (.bool false)) := (((Keeps.refl (fun b => b = B) _).setCell B 1 _ (.inl rfl)).setCell B 2 _ (.inl rfl)).setCell B 3 _ (.inl rfl)
  exact ⟨rfl, W', P', h.store (((h.l.setGen (g.gen + 1)).setAt a).setDown false) hk, hst.trans (LStep.own hk)⟩
set_option maxHeartbeats 400000 in
theorem rcheck_down {w : World} {B V : Nat} {g : Lg} {s : St} {W P : Nat → Prop} (h : RLog w B V g s W P) (hd : g.down = true) (a : Option Addr) (len cap : Nat) (f : Nat → Nat) :
    Calls Try.prog 18 #[.pointer (some ⟨B, 0, none⟩), .slice a len cap] w fun r w' => ChkRes w w' B V g s W P f len r := by
  have c3 := h.l.c3
  rw [hd] at c3
  have H := hide h
  have HD := hide hd
  clear h hd
  go_enter Try.func18, Try.ntmps18
  go_wp2
  go_ret
  unfold ChkRes
  rw [check_down HD.out]
  exact ⟨rfl, W, P, H.out, LStep.refl _ _ _ _⟩
set_option maxRecDepth 100000 in
set_option maxHeartbeats 1600000 in
theorem rcheck_arg {w : World} {B V : Nat} {g : Lg} {s : St} {W P : Nat → Prop} (h : RLog w B V g s W P) (hd : g.down = false) (hn : 4 ≤ s.n) (hs : s.n ≤ 1024) (hgen : g.gen ≤ 2147483647) (a : Option Addr) (len cap : Nat) (f : Nat → Nat) (hl : 8192 < len) :
    Calls Try.prog 18 #[.pointer (some ⟨B, 0, none⟩), .slice a len cap] w fun r w' => ChkRes w w' B V g s W P f len r := by
  have c0 := h.l.c0
  have c1 := h.l.c1
  have c3 := h.l.c3
  rw [hd] at c3
  have hl' : decide ((8192 : Int) < (len : Int)) = true := decide_eq_true (by omega)
  have hg1 : (g.gen : Int) ≤ 2147483647 := by omega
  have H := hide h
  have HD := hide hd
  have HL := hide hl
  clear h hd hl hgen
  go_enter Try.func18, Try.ntmps18
  go_wp2_with fail
  refine (bounds_any H.out.r (g.gen + 1) hn hs).mono ?_
  rintro r w1 ⟨rfl, rfl⟩
  go_wp2
  go_ret
  unfold ChkRes
  rw [check_arg HD.out HL.out]
  exact ⟨rfl, W, P, H.out, LStep.refl _ _ _ _⟩
set_option maxRecDepth 100000 in
set_option maxHeartbeats 1600000 in
theorem rcheck_full {w : World} {B V : Nat} {g : Lg} {s : St} {W P : Nat → Prop} (h : RLog w B V g s W P) (hd : g.down = false) (hn : 4 ≤ s.n) (hs : s.n ≤ 1024) (hgen : g.gen ≤ 2147483647) (a : Option Addr) (len cap : Nat) (f : Nat → Nat) (hl : ¬ 8192 < len) (hcap : len ≤ cap)
    (hr : Rw w a len f) (hf : ∀ i, i < len → f i < 256) (hfull : 2147483647 < g.gen + 1 ∨ half s.n < cnt len) :
    Calls Try.prog 18 #[.pointer (some ⟨B, 0, none⟩), .slice a len cap] w fun r w' => ChkRes w w' B V g s W P f len r := by
  have c0 := h.l.c0
  have c1 := h.l.c1
  have c3 := h.l.c3
  rw [hd] at c3
  have hl' : decide ((8192 : Int) < (len : Int)) = false := decide_eq_false (by omega)
  have hg1 : (g.gen : Int) ≤ 2147483647 := by omega
  have H := hide h
  have HD := hide hd
  have HL := hide hl
  have HR := hide hr
  have HF := hide hf
  have HFU := hide hfull
  have HB := hide (fromOf_le s.n (g.gen + 1) hn)
  have HT : Hid ((toOf s.n (g.gen + 1) : Int) = (fromOf s.n (g.gen + 1) : Int) + (half s.n : Int)) := by show _ = _; unfold toOf; omega
  by_cases hbig : 2147483647 < g.gen + 1
  · have hb' : decide ((2147483647 : Int) < (g.gen : Int) + 1) = true := decide_eq_true (by omega)
    clear h hd hl hgen hr hf hfull hbig
    go_enter Try.func18, Try.ntmps18
    go_wp2_with fail
    refine (bounds_any H.out.r (g.gen + 1) hn hs).mono ?_
    rintro r w1 ⟨rfl, rfl⟩
    go_wp2
    go_ret
    unfold ChkRes
    rw [check_full HD.out HL.out HFU.out]
    exact ⟨rfl, W, P, H.out, LStep.refl _ _ _ _⟩
  · have hb' : decide ((2147483647 : Int) < (g.gen : Int) + 1) = false := decide_eq_false (by omega)
    have hh : (half s.n : Int) < (cnt len : Int) := by rcases hfull with h1 | h1; exact absurd h1 hbig; omega
    have HH := hide hh
    clear h hd hl hgen hr hf hfull hbig hh
    go_enter Try.func18, Try.ntmps18
    go_wp2_with fail
    refine (bounds_any H.out.r (g.gen + 1) hn hs).mono ?_
    rintro r w1 ⟨rfl, rfl⟩
    go_wp2_with fail
    refine (sectors_any 0 (by omega) a len cap f w1 HR.out HF.out (by have := HL.out; omega) hcap).mono ?_
    rintro r w2 ⟨v, rfl, hpg, hb2⟩
    have ht1 := HT.out
    have hb1 := HB.out
    obtain ⟨g2, c2, hv, _⟩ := (hpg.sheets (by unfold cnt; omega)).at
    subst hv
    have HB2 := hide hb2
    have hlt : (toOf s.n (g.gen + 1) : Int) - (fromOf s.n (g.gen + 1) : Int) < (cnt len : Int) := by have := HH.out; omega
    have hto : (toOf s.n (g.gen + 1) : Int) ≤ 1024 := by omega
    have HCK := hide (check_full HD.out HL.out HFU.out (f := f))
    clear hpg hb2
    have hfm : (0 : Int) ≤ (fromOf s.n (g.gen + 1) : Int) := Int.natCast_nonneg _
    have hto0 : (0 : Int) ≤ (toOf s.n (g.gen + 1) : Int) := Int.natCast_nonneg _
    have hfm1 : (fromOf s.n (g.gen + 1) : Int) ≤ 1024 := by omega
    clear ht1 hb1
    clear HT HB HFU HH
    generalize cnt len = C at *
    generalize ((toOf s.n (g.gen + 1) : Nat) : Int) = T at *
    generalize ((fromOf s.n (g.gen + 1) : Nat) : Int) = Fm at *
    have hdl : decide (T - Fm < (C : Int)) = true := decide_eq_true hlt
    go_wp2
    go_ret
    unfold ChkRes
    rw [HCK.out]
    exact ⟨rfl, W, P, H.out.later HB2.out, RStep.log (RStep.of_below HB2.out)⟩
set_option maxRecDepth 100000 in
set_option maxHeartbeats 6400000 in
theorem rcheck_in {w : World} {B V : Nat} {g : Lg} {s : St} {W P : Nat → Prop} (h : RLog w B V g s W P) (hmd : Made s) (hd : g.down = false) (hn : 4 ≤ s.n) (hs : s.n ≤ 1024) (hlo : s.lo.length < 700000) (hgen : g.gen ≤ 2147483647) (a : Option Addr) (len cap : Nat) (f : Nat → Nat) (hl : ¬ 8192 < len) (hcap : len ≤ cap)
    (hr : Rw w a len f) (hf : ∀ i, i < len → f i < 256) (ha : ∀ x, a = some x → 0 < len → ¬ W x.block) (hfull : ¬ (2147483647 < g.gen + 1 ∨ half s.n < cnt len)) :
    Calls Try.prog 18 #[.pointer (some ⟨B, 0, none⟩), .slice a len cap] w fun r w' => ChkRes w w' B V g s W P f len r := by
  have c0 := h.l.c0
  have c1 := h.l.c1
  have c3 := h.l.c3
  rw [hd] at c3
  have hl' : decide ((8192 : Int) < (len : Int)) = false := decide_eq_false (by omega)
  have hg1 : (g.gen : Int) ≤ 2147483646 := by omega
  have hb' : decide ((2147483647 : Int) < (g.gen : Int) + 1) = false := decide_eq_false (by omega)
  have H := hide h
  have HMD := hide hmd
  have HD := hide hd
  have HL := hide hl
  have HR := hide hr
  have HF := hide hf
  have HA := hide ha
  have HFU := hide hfull
  have HB := hide (fromOf_le s.n (g.gen + 1) hn)
  have HT : Hid ((toOf s.n (g.gen + 1) : Int) = (fromOf s.n (g.gen + 1) : Int) + (half s.n : Int)) := by show _ = _; unfold toOf; omega
  have HLO := hide hlo
  clear h hmd hd hl hgen hr hf ha hfull hlo
  go_enter Try.func18, Try.ntmps18
  go_wp2_with fail
  refine (bounds_any H.out.r (g.gen + 1) hn hs).mono ?_
  rintro r w1 ⟨rfl, rfl⟩
  go_wp2_with fail
  refine (sectors_any 0 (by omega) a len cap f w1 HR.out HF.out (by have := HL.out; omega) hcap).mono ?_
  rintro r w2 ⟨v, rfl, hpg, hb2⟩
  obtain ⟨g2, c2, hv, _⟩ := (hpg.sheets (by unfold cnt; omega)).at
  subst hv
  have H2 := hide (H.out.later hb2)
  have HS2 := hide (RStep.of_below (W := W) (P := P) hb2)
  have HR2 := hide (HR.out.below hb2)
  clear hpg hb2
  obtain ⟨C, hC⟩ : ∃ C, C = cnt len := ⟨_, rfl⟩
  obtain ⟨T, hT⟩ : ∃ T, T = toOf s.n (g.gen + 1) := ⟨_, rfl⟩
  obtain ⟨Fm, hFm⟩ : ∃ Fm, Fm = fromOf s.n (g.gen + 1) := ⟨_, rfl⟩
  rw [← hC, ← hT, ← hFm]
  have HE := hide (And.intro hC (And.intro hT hFm))
  have hT1 : (T : Int) ≤ 1024 := by have := HB.out; omega
  have hFm1 : (Fm : Int) ≤ (T : Int) := by have := HT.out; omega
  have hCT : (C : Int) ≤ (T : Int) - (Fm : Int) := by have := HT.out; have := HFU.out; omega
  have d0 := H2.out.l.c0
  have d1 := H2.out.l.c1
  have d3 := H2.out.l.c3
  rw [HD.out] at d3
  have hm1 : half s.n = (min (T : Int) (s.n : Int) - (Fm : Int)).toNat := by have := HT.out; have := HB.out; omega
  have HM1 := hide hm1
  clear hC hT hFm hm1
  go_wp2_with fail
  refine (rclean_any H2.out.r HMD.out (Fm : Int) (T : Int) Fm (half s.n) (by omega) HM1.out hs (by have := HLO.out; omega)).mono ?_
  rintro r w3 ⟨rfl, W3, P3, hd3, hst3⟩
  have H3 := hide (H2.out.step hd3 hst3)
  have HS3 := hide (HS2.out.trans hst3)
  have HR3 := hide (HR2.out.keeps hst3.1 HA.out)
  have HN3 := hide (clean_n s Fm (half s.n))
  have HL3 := hide (clean_lo s Fm (half s.n))
  clear hd3 hst3
  have HCS : Hid (checkSt s (g.gen + 1) f len = andThen (andThen (andThen (s.clean Fm (half s.n)) fun t => t.lay Fm (ent (g.gen + 1) f len) (cnt len)) fun t => t.wr ((g.gen + 1) % 2) (fill (sup (g.gen + 1)) 64)) St.fl) := by
    show _ = _
    rw [HE.out.2.2]
    rfl
  have hcc := clean_cases s Fm (half s.n)
  generalize hS3 : s.clean Fm (half s.n) = S3 at *
  have e0 := H3.out.l.c0
  have e1 := H3.out.l.c1
  have e2 := H3.out.l.c2
  have e3 := H3.out.l.c3
  rw [HD.out] at e3
  have ef := H3.out.l.fz 3
  rcases hcc with h0 | h0
  · have H0 := hide h0
    rw [h0]
    clear h0
    have HN3' : Hid (S3.1.n = s.n) := HN3.out
    have HFT : Hid ((Fm : Int) + (cnt len : Int) ≤ min (T : Int) (S3.1.n : Int)) := by
      show _ ≤ _
      rw [HN3.out]
      have := HE.out; have := HB.out
      omega
    have HC1 : Hid (andThen S3 (fun t => t.lay Fm (ent (g.gen + 1) f len) (cnt len)) = S3.1.lay Fm (ent (g.gen + 1) f len) (cnt len)) := andThen_ok H0.out
    have hll := lay_cases S3.1 Fm (g.gen + 1) f len
    rcases hll with h4 | h4
    · have H4 := hide h4
      have HL4 := hide (lay_lo S3.1 Fm (g.gen + 1) f len)
      have HN4 := hide (lay_n S3.1 Fm (g.gen + 1) f len)
      clear h4 hS3
      go_wp2_with fail
      refine (rlay_ok H3.out.r Fm (g.gen + 1) (T : Int) a len cap f (by omega) (by have := HL.out; omega) hcap HR3.out HF.out (by rw [HN3.out]; exact hs) (by have := HL3.out; have := HLO.out; have := HB.out; unfold half at *; omega) HFT.out H4.out).mono ?_
      rintro r w4 ⟨rfl, W4, P4, hd4, hst4⟩
      have HI4 := hide (H3.out.step hd4 hst4)
      have HS4 := hide (HS3.out.trans hst4)
      clear hd4 hst4
      generalize S3.1.lay Fm (ent (g.gen + 1) f len) (cnt len) = S4 at *
      have k0 := HI4.out.l.c0
      have HTM : Hid (((g.gen : Int) + 1).tmod 2 = (((g.gen + 1) % 2 : Nat) : Int)) := by
        show _ = _
        rw [Int.tmod_eq_emod_of_nonneg (by omega)]
        omega
      have HTI : Hid ((g.gen + 1) % 2 < S4.1.n) := by show _ < _; rw [HN4.out, HN3.out]; omega
      have HLW : Hid (S4.1.lo.length < 1000000) := by show _ < _; have := HL4.out; have := HL3.out; have := HLO.out; have := HB.out; have := HL.out; unfold half at *; omega
      have HC2 : Hid (andThen S4 (fun t => t.wr ((g.gen + 1) % 2) (fill (sup (g.gen + 1)) 64)) = S4.1.wr ((g.gen + 1) % 2) (fill (sup (g.gen + 1)) 64)) := andThen_ok H4.out
      rcases wr_cases S4.1 ((g.gen + 1) % 2) (fill (sup (g.gen + 1)) 64) with h5 | h5
      · have H5 := hide h5
        clear h5
        go_wp2_with fail
        go_region_held3 (fun w' => w'.cell? ⟨B, 0, none⟩ = some (.pointer (some ⟨V, 0, none⟩)))
          (first | assumption | (simp only [World.cell?_drew]; assumption))
          (first
            | (go_at_call 40; refine (super_any (g.gen + 1) (by omega) _).mono ?_; rintro e wS ⟨bS, rfl, hrS, hleS, hbS⟩; have qS : Hid (RLog wS B V g S4.1 W4 P4) := HI4.out.later (below_drew1 (Below.refl _ _) |>.trans hbS); have k0S := qS.out.l.c0; have RS := hide hrS; have BS : Hid (Below w4.heap.size w4 wS) := (below_drew1 (Below.refl _ _)).trans hbS; have LS : Hid (w4.heap.size ≤ bS) := hleS; clear hrS hbS hleS)
            | (go_at_call 43; rw [HTM.out]; refine (rdisk_wrc qS.out.r ((g.gen + 1) % 2) HTI.out (some ⟨bS, 0, none⟩) 64 64 (sup (g.gen + 1)) (by omega) HLW.out RS.out (fun x hx _ => by injection hx with hx; subst hx; have := HI4.out.r.V; have := LS.out; show bS ≠ V; omega) H5.out).mono ?_; rintro e wW ⟨rfl, W5, P5, hd5, hst5⟩; have qW : Hid (RLog wW B V g (S4.1.wr ((g.gen + 1) % 2) (fill (sup (g.gen + 1)) 64)).1 W5 P5) := qS.out.step hd5 hst5; have k0W := qW.out.l.c0; have k1W := qW.out.l.c1; have k2W := qW.out.l.c2; have k3W := qW.out.l.c3; rw [HD.out] at k3W; have kf1 := qW.out.l.fz 1; have kf2 := qW.out.l.fz 2; have kf3 := qW.out.l.fz 3; have sW : Hid (RStep W P W5 P5 w1 wW) := (HS4.out.trans (RStep.of_below BS.out)).trans hst5; clear hd5 hst5))
        all_goals generalize S4.1.wr ((g.gen + 1) % 2) (fill (sup (g.gen + 1)) 64) = S5 at *
        all_goals
          go_wp2_with fail
          refine (rdisk_fl qW.out.r).mono ?_
          rintro r w6 ⟨rfl, W6, P6, hd6, hst6⟩
          have H6 := hide (qW.out.step hd6 hst6)
          have S6 := hide (sW.out.trans hst6)
          have m1 := H6.out.l.c1
          have m2 := H6.out.l.c2
          have m3 := H6.out.l.c3
          rw [HD.out] at m3
          have mf1 := H6.out.l.fz 1
          have mf2 := H6.out.l.fz 2
          have mf3 := H6.out.l.fz 3
          have HC3 : Hid (andThen S5 St.fl = S5.1.fl) := andThen_ok H5.out
          clear hd6 hst6
          rcases fl_cases S5.1 with h6 | h6
          · have H6e := hide h6
            rw [h6]
            clear h6
            go_wp2
            go_ret
            exact chk_good (check_ok' HD.out HL.out HFU.out (by rw [HCS.out, HC1.out, HC2.out, HC3.out]) H6e.out HE.out.2.2 HE.out.1) (by omega) (by have := HE.out.1; omega) H6.out (RStep.log S6.out)
          · have H6e := hide h6
            rw [h6]
            clear h6
            go_wp2
            go_ret
            exact chk_dead (check_no HD.out HL.out HFU.out (S := S5.1.fl) (by rw [HCS.out, HC1.out, HC2.out, HC3.out]) H6e.out) H6.out (RStep.log S6.out)
      · have H5 := hide h5
        clear h5
        go_wp2_with fail
        go_region_held3 (fun w' => w'.cell? ⟨B, 0, none⟩ = some (.pointer (some ⟨V, 0, none⟩)))
          (first | assumption | (simp only [World.cell?_drew]; assumption))
          (first
            | (go_at_call 40; refine (super_any (g.gen + 1) (by omega) _).mono ?_; rintro e wS ⟨bS, rfl, hrS, hleS, hbS⟩; have qS : Hid (RLog wS B V g S4.1 W4 P4) := HI4.out.later (below_drew1 (Below.refl _ _) |>.trans hbS); have k0S := qS.out.l.c0; have RS := hide hrS; have BS : Hid (Below w4.heap.size w4 wS) := (below_drew1 (Below.refl _ _)).trans hbS; have LS : Hid (w4.heap.size ≤ bS) := hleS; clear hrS hbS hleS)
            | (go_at_call 43; rw [HTM.out]; refine (rdisk_wrc qS.out.r ((g.gen + 1) % 2) HTI.out (some ⟨bS, 0, none⟩) 64 64 (sup (g.gen + 1)) (by omega) HLW.out RS.out (fun x hx _ => by injection hx with hx; subst hx; have := HI4.out.r.V; have := LS.out; show bS ≠ V; omega) H5.out).mono ?_; rintro e wW ⟨rfl, W5, P5, hd5, hst5⟩; have qW : Hid (RLog wW B V g (S4.1.wr ((g.gen + 1) % 2) (fill (sup (g.gen + 1)) 64)).1 W5 P5) := qS.out.step hd5 hst5; have k0W := qW.out.l.c0; have k1W := qW.out.l.c1; have k2W := qW.out.l.c2; have k3W := qW.out.l.c3; rw [HD.out] at k3W; have kf1 := qW.out.l.fz 1; have kf2 := qW.out.l.fz 2; have kf3 := qW.out.l.fz 3; have sW : Hid (RStep W P W5 P5 w1 wW) := (HS4.out.trans (RStep.of_below BS.out)).trans hst5; clear hd5 hst5))
        all_goals generalize S4.1.wr ((g.gen + 1) % 2) (fill (sup (g.gen + 1)) 64) = S5 at *
        all_goals
          go_wp2
          go_ret
          exact chk_dead (check_no HD.out HL.out HFU.out (S := S5) (by rw [HCS.out, HC1.out, HC2.out, andThen_no (r := S5) (by rw [H5.out]; decide)]) H5.out) qW.out (RStep.log sW.out)
    · have H4 := hide h4
      clear h4 hS3
      go_wp2_with fail
      refine (rlay_no H3.out.r Fm (g.gen + 1) (T : Int) a len cap f (by omega) (by have := HL.out; omega) hcap HR3.out HF.out (by rw [HN3.out]; exact hs) (by have := HL3.out; have := HLO.out; have := HB.out; unfold half at *; omega) HFT.out H4.out).mono ?_
      rintro r w4 ⟨rfl, W4, P4, hd4, hst4⟩
      have HI4 := hide (H3.out.step hd4 hst4)
      have HS4 := hide (HS3.out.trans hst4)
      clear hd4 hst4
      generalize S3.1.lay Fm (ent (g.gen + 1) f len) (cnt len) = S4 at *
      have k0 := HI4.out.l.c0
      have k3 := HI4.out.l.c3
      rw [HD.out] at k3
      have kf := HI4.out.l.fz 3
      go_wp2
      go_ret
      exact chk_dead (check_no HD.out HL.out HFU.out (S := S4) (by rw [HCS.out, HC1.out, andThen_no (r := S4) (by rw [H4.out]; decide), andThen_no (r := S4) (by rw [H4.out]; decide)]) H4.out) HI4.out (RStep.log HS4.out)
  · have H0 := hide h0
    rw [h0]
    clear h0 hS3
    go_wp2
    go_ret
    exact chk_dead (check_no HD.out HL.out HFU.out (S := S3) (by rw [HCS.out, andThen_no (r := S3) (by rw [H0.out]; decide), andThen_no (r := S3) (by rw [H0.out]; decide), andThen_no (r := S3) (by rw [H0.out]; decide)]) H0.out) H3.out (RStep.log HS3.out)
/-- Checkpoint, whatever the log is. -/
theorem rcheck_any {w : World} {B V : Nat} {g : Lg} {s : St} {W P : Nat → Prop} (h : RLog w B V g s W P) (hmd : Made s) (hn : 4 ≤ s.n) (hs : s.n ≤ 1024) (hlo : s.lo.length < 700000) (hgen : g.gen ≤ 2147483647) (a : Option Addr) (len cap : Nat) (f : Nat → Nat) (hcap : len ≤ cap)
    (hr : Rw w a len f) (hf : ∀ i, i < len → f i < 256) (ha : ∀ x, a = some x → 0 < len → ¬ W x.block) : Calls Try.prog 18 #[.pointer (some ⟨B, 0, none⟩), .slice a len cap] w fun r w' => ChkRes w w' B V g s W P f len r := by
  cases hd : g.down with
  | true => exact rcheck_down h hd a len cap f
  | false =>
    by_cases hl : 8192 < len
    · exact rcheck_arg h hd hn hs hgen a len cap f hl
    · by_cases hf2 : 2147483647 < g.gen + 1 ∨ half s.n < cnt len
      · exact rcheck_full h hd hn hs hgen a len cap f hl hcap hr hf hf2
      · exact rcheck_in h hmd hd hn hs hlo hgen a len cap f hl hcap hr hf ha hf2
end Go.Proofs.Ytbecchoidglaeaa
