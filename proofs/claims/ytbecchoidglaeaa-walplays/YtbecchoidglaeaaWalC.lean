/- The program's turn and Checkpoint. -/
import Derived.Test.YtbecchoidglaeaaWalA
namespace Go.Proofs.Ytbecchoidglaeaa
open Go.RowKit
set_option maxRecDepth 100000

theorem andThen_assoc (r : St × Nat) (k l : St → St × Nat) : andThen (andThen r k) l = andThen r fun t => andThen (k t) l := by
  by_cases h : r.2 = 0
  · rw [andThen_ok h, andThen_ok (k := fun t => andThen (k t) l) h]
  · rw [andThen_no (k := k) h, andThen_no h, andThen_no h]
theorem checkSt_eq (s : St) (g : Nat) (f : Nat → Nat) (len : Nat) : checkSt s g f len = andThen (s.clean (fromOf s.n g) (half s.n)) fun t => andThen (t.lay (fromOf s.n g) (ent g f len) (cnt len)) fun u => u.mark g := by
  unfold checkSt St.mark
  rw [andThen_assoc, andThen_assoc]
theorem mark_cases (s : St) (g : Nat) : (s.mark g).2 = 0 ∨ (s.mark g).2 = 4 := by
  unfold St.mark
  rcases wr_cases s (g % 2) (fill (sup g) 64) with h | h
  · rw [andThen_ok h]; exact fl_cases _
  · rw [andThen_no (by rw [h]; decide)]; exact .inr h
/-- What turn answers. -/
def TurnRes (w w' : World) (D : Nat) (s : St) (F : Nat → Prop) (g : Nat) (f : Nat → Nat) (len : Nat) (r : Ending) : Prop :=
  ∃ F', Disk w' D (checkSt s g f len).1 F' ∧ Step F F' w w' ∧
    (((checkSt s g f len).2 = 0 ∧ r = .returned (.tuple #[.int .i64 ((fromOf s.n g : Int) + (cnt len : Int)), .int .i64 0])) ∨ ((checkSt s g f len).2 = 4 ∧ ∃ x, r = .returned (.tuple #[.int .i64 x, .int .i64 4])))
set_option maxHeartbeats 1600000 in
theorem turn_any {w : World} {D : Nat} {s : St} {F : Nat → Prop} (h : Disk w D s F) (g : Nat) (hg : g ≤ 2147483647) (hn : 4 ≤ s.n) (hs : s.n ≤ 1024) (hlo : s.lo.length < 700000) (a : Option Addr) (len cap : Nat) (f : Nat → Nat) (hl : len ≤ 8192) (hcap : len ≤ cap)
    (hr : Rw w a len f) (hf : ∀ i, i < len → f i < 256) (ha : ∀ x, a = some x → 0 < len → ¬ F x.block) (hroom : cnt len ≤ half s.n) :
    Calls Try.prog 52 #[.pointer (some ⟨D, 0, none⟩), .int .i64 (g : Int), .slice a len cap] w fun r w' => TurnRes w w' D s F g f len r := by
  have H := hide h
  have HN := hide (And.intro hn hs)
  have HLO := hide hlo
  have HR := hide hr
  have HF := hide hf
  have HA := hide ha
  have HLC := hide (And.intro hl (And.intro hcap (And.intro hg hroom)))
  have HFL := hide (fromOf_le s.n g hn)
  have HTO : Hid (toOf s.n g = fromOf s.n g + half s.n) := rfl
  have HCK := hide (checkSt_eq s g f len)
  clear h hn hs hlo hr hf ha hl hcap hg hroom
  go_enter Try.func52, Try.ntmps52
  go_wp2_with fail
  refine (rof_any H.out g HN.out.1 HN.out.2).mono ?_
  rintro e w ⟨rfl, hw1⟩
  subst hw1
  obtain ⟨Fm, hFm⟩ : ∃ Fm, Fm = fromOf s.n g := ⟨_, rfl⟩
  obtain ⟨T, hT⟩ : ∃ T, T = toOf s.n g := ⟨_, rfl⟩
  have HFm := hide hFm
  have HT := hide hT
  rw [← hFm, ← hT]
  rw [← hFm, ← hT] at HFL HTO
  rw [← hFm] at HCK
  clear hFm hT
  go_wp2_with fail
  refine (clean_any H.out (Fm : Int) (T : Int) Fm (half s.n) (by omega) (by have := HFL.out; have := HTO.out; have := HN.out; omega) HN.out.2 (by have := HLO.out; omega)).mono ?_
  rintro e w1 ⟨rfl, F1, hd1, hst1⟩
  have HD1 := hide hd1
  have HS1 := hide hst1
  have HQ1 := hide (And.intro (clean_n s Fm (half s.n)) (clean_lo s Fm (half s.n)))
  have hcc := clean_cases s Fm (half s.n)
  have HHF : Hid (half s.n ≤ 1024) := by show half s.n ≤ 1024; have := HN.out; unfold half; omega
  clear hd1 hst1
  generalize s.clean Fm (half s.n) = S1 at *
  rcases hcc with h1 | h1
  · have H1 := hide h1
    rw [h1]
    clear h1
    have HCK2 : Hid (checkSt s g f len = andThen (S1.1.lay Fm (ent g f len) (cnt len)) fun u => u.mark g) := by show _ = _; rw [HCK.out, andThen_ok H1.out]
    have HFT : Hid (fit S1.1.n Fm (T : Int) len = true) := by
      show _ = true
      rw [fit_iff, HQ1.out.1]
      have := HFL.out; have := HTO.out; have := HN.out; have := HLC.out
      have h2 : 1 ≤ cnt len := by unfold cnt; omega
      omega
    have HR1 : Hid (Rw w1 a len f) := HR.out.keeps HS1.out.1 HA.out
    have HA1 : Hid (∀ x, a = some x → 0 < len → ¬ F1 x.block) := fun x hx h0 hb => by
      rcases HS1.out.2 _ hb with h2 | h2
      · exact HA.out x hx h0 h2
      · have := HR.out.lt x hx h0; omega
    have HLO1 : Hid (S1.1.lo.length < 800000) := by show _ < _; have := HQ1.out.2; have := HLO.out; have := HHF.out; omega
    have hc1 : (Fm : Int) + (cnt len : Int) ≤ 1024 := by have := HFL.out; have := HTO.out; have := HN.out; have := HLC.out; omega
    rcases lay_cases S1.1 Fm g f len with h2 | h2
    · have H2 := hide h2
      clear h2
      go_wp2_with fail
      refine (lay_ok HD1.out Fm g (T : Int) a len cap f HLC.out.2.2.1 HLC.out.1 HLC.out.2.1 HR1.out HF.out HA1.out (by rw [HQ1.out.1]; exact HN.out.2) HLO1.out HFT.out H2.out).mono ?_
      rintro e w2 ⟨rfl, F2, hd2, hst2⟩
      have HD2 := hide hd2
      have HS2 := hide (HS1.out.trans hst2)
      have HQ2 := hide (And.intro (lay_n S1.1 Fm g f len) (lay_lo S1.1 Fm g f len))
      clear hd2 hst2
      generalize S1.1.lay Fm (ent g f len) (cnt len) = S2 at *
      have HCK3 : Hid (checkSt s g f len = S2.1.mark g) := by show _ = _; rw [HCK2.out, andThen_ok H2.out]
      go_wp2_with fail
      refine (mark_any HD2.out g HLC.out.2.2.1 (by rw [HQ2.out.1, HQ1.out.1]; exact HN.out.1) (by have := HQ2.out.2; have := HLO1.out; have := HLC.out.1; omega)).mono ?_
      rintro e w3 ⟨rfl, F3, hd3, hst3⟩
      have HD3 := hide hd3
      have HS3 := hide (HS2.out.trans hst3)
      clear hd3 hst3
      rcases mark_cases S2.1 g with h3 | h3
      · have H3 := hide h3
        rw [h3]
        clear h3
        go_wp2
        go_ret2
        unfold TurnRes
        rw [HCK3.out, ← HFm.out]
        exact ⟨F3, HD3.out, HS3.out, .inl ⟨H3.out, rfl⟩⟩
      · have H3 := hide h3
        rw [h3]
        clear h3
        go_wp2
        go_ret2
        unfold TurnRes
        rw [HCK3.out]
        exact ⟨F3, HD3.out, HS3.out, .inr ⟨H3.out, _, rfl⟩⟩
    · have H2 := hide h2
      clear h2
      go_wp2_with fail
      refine (lay_no HD1.out Fm g (T : Int) a len cap f HLC.out.2.2.1 HLC.out.1 HLC.out.2.1 HR1.out HF.out HA1.out (by rw [HQ1.out.1]; exact HN.out.2) HLO1.out HFT.out H2.out).mono ?_
      rintro e w2 ⟨rfl, F2, hd2, hst2⟩
      have HD2 := hide hd2
      have HS2 := hide (HS1.out.trans hst2)
      clear hd2 hst2
      generalize S1.1.lay Fm (ent g f len) (cnt len) = S2 at *
      have HCK3 : Hid (checkSt s g f len = S2) := by show _ = _; rw [HCK2.out, andThen_no (by rw [H2.out]; decide)]
      go_wp2
      go_ret2
      unfold TurnRes
      rw [HCK3.out]
      exact ⟨F2, HD2.out, HS2.out, .inr ⟨H2.out, _, rfl⟩⟩
  · have H1 := hide h1
    rw [h1]
    clear h1
    have HCK2 : Hid (checkSt s g f len = S1) := by show _ = _; rw [HCK.out, andThen_no (by rw [H1.out]; decide)]
    go_wp2
    go_ret2
    unfold TurnRes
    rw [HCK2.out]
    exact ⟨F1, HD1.out, HS1.out, .inr ⟨H1.out, _, rfl⟩⟩
/-- What Checkpoint answers. -/
def PChkRes (w w' : World) (B D : Nat) (g : Lg) (s : St) (F : Nat → Prop) (f : Nat → Nat) (len : Nat) (r : Ending) : Prop :=
  r = .returned (.int .i64 ((g.check s f len).2 : Int)) ∧ ∃ F', PLog w' B D (g.check s f len).1.2 (g.check s f len).1.1 F' ∧ PStep B F F' w w'
set_option maxHeartbeats 400000 in
theorem check_nil (w : World) (a : Option Addr) (len cap : Nat) : Calls Try.prog 17 #[.pointer none, .slice a len cap] w fun r w' => r = .returned (.int .i64 1) ∧ w' = w := by
  go_enter Try.func17, Try.ntmps17
  go_wp2_with fail
  refine (isNone_nil _).mono ?_
  rintro e w1 ⟨rfl, rfl⟩
  go_wp2
  go_ret
  exact ⟨rfl, rfl⟩
set_option maxHeartbeats 400000 in
theorem pcheck_down {w : World} {B D : Nat} {g : Lg} {s : St} {F : Nat → Prop} (h : PLog w B D g s F) (hd : g.down = true) (a : Option Addr) (len cap : Nat) (f : Nat → Nat) :
    Calls Try.prog 17 #[.pointer (some ⟨B, 0, none⟩), .slice a len cap] w fun r w' => PChkRes w w' B D g s F f len r := by
  have c3 := h.l.c3
  rw [hd] at c3
  have H := hide h
  have HD := hide hd
  clear h hd
  go_enter Try.func17, Try.ntmps17
  go_wp2_with fail
  refine (isNone_in H.out.l).mono ?_
  rintro e w1 ⟨rfl, rfl⟩
  go_wp2
  go_ret
  unfold PChkRes
  rw [check_down HD.out]
  exact ⟨rfl, F, H.out, PStep.refl _ _ _⟩
set_option maxHeartbeats 400000 in
theorem pcheck_arg {w : World} {B D : Nat} {g : Lg} {s : St} {F : Nat → Prop} (h : PLog w B D g s F) (hd : g.down = false) (a : Option Addr) (len cap : Nat) (f : Nat → Nat) (hl : 8192 < len) :
    Calls Try.prog 17 #[.pointer (some ⟨B, 0, none⟩), .slice a len cap] w fun r w' => PChkRes w w' B D g s F f len r := by
  have c3 := h.l.c3
  rw [hd] at c3
  have H := hide h
  have HD := hide hd
  have HL := hide hl
  have hl' : (8192 : Int) < (len : Int) := by omega
  clear h hd hl
  go_enter Try.func17, Try.ntmps17
  go_wp2_with fail
  refine (isNone_in H.out.l).mono ?_
  rintro e w1 ⟨rfl, rfl⟩
  go_wp2
  go_ret
  unfold PChkRes
  rw [check_arg HD.out HL.out]
  exact ⟨rfl, F, H.out, PStep.refl _ _ _⟩
set_option maxHeartbeats 800000 in
theorem pcheck_last {w : World} {B D : Nat} {g : Lg} {s : St} {F : Nat → Prop} (h : PLog w B D g s F) (hd : g.down = false) (a : Option Addr) (len cap : Nat) (f : Nat → Nat) (hl : ¬ 8192 < len) (hg : 2147483647 ≤ g.gen) :
    Calls Try.prog 17 #[.pointer (some ⟨B, 0, none⟩), .slice a len cap] w fun r w' => PChkRes w w' B D g s F f len r := by
  have c1 := h.l.c1
  have c3 := h.l.c3
  rw [hd] at c3
  have H := hide h
  have HD := hide hd
  have HL := hide hl
  have HG := hide hg
  have hl' : decide ((8192 : Int) < (len : Int)) = false := decide_eq_false (by omega)
  have hg' : (2147483647 : Int) ≤ (g.gen : Int) := by omega
  clear h hd hl hg
  go_enter Try.func17, Try.ntmps17
  go_wp2_with fail
  refine (isNone_in H.out.l).mono ?_
  rintro e w ⟨rfl, hw1⟩
  subst hw1
  go_wp2_with fail
  go_quiet (fail)
  go_wp2
  go_ret
  unfold PChkRes
  rw [check_full HD.out HL.out (.inl (by have := HG.out; omega))]
  exact ⟨rfl, F, H.out.later (below_drewN (Below.refl _ _) _), Step.log (Step.of_below (below_drewN (Below.refl _ _) _))⟩
set_option maxHeartbeats 800000 in
theorem pcheck_full {w : World} {B D : Nat} {g : Lg} {s : St} {F : Nat → Prop} (h : PLog w B D g s F) (hd : g.down = false) (hn : 4 ≤ s.n) (hs : s.n ≤ 1024) (a : Option Addr) (len cap : Nat) (f : Nat → Nat) (hl : ¬ 8192 < len) (hg : g.gen < 2147483647) (hc : half s.n < cnt len) :
    Calls Try.prog 17 #[.pointer (some ⟨B, 0, none⟩), .slice a len cap] w fun r w' => PChkRes w w' B D g s F f len r := by
  have c0 := h.l.c0
  have c1 := h.l.c1
  have c3 := h.l.c3
  rw [hd] at c3
  have H := hide h
  have HD := hide hd
  have HL := hide hl
  have HG := hide hg
  have HC := hide hc
  have HN := hide (And.intro hn hs)
  have hl' : decide ((8192 : Int) < (len : Int)) = false := decide_eq_false (by omega)
  have hg' : decide ((2147483647 : Int) ≤ (g.gen : Int)) = false := decide_eq_false (by omega)
  have hc' : (half s.n : Int) < (cnt len : Int) := by omega
  have HSZ : Hid (∀ w : World, Calls Try.prog 50 #[.int .i64 (len : Int)] w fun e w' => e = .returned (.int .i64 (cnt len : Int)) ∧ w' = w) := fun w => by
    have := size_any (len : Int) w (by omega)
    rw [Int.toNat_natCast] at this
    exact this
  clear h hd hl hg hc hn hs
  go_enter Try.func17, Try.ntmps17
  go_wp2_with fail
  refine (isNone_in H.out.l).mono ?_
  rintro e w ⟨rfl, hw1⟩
  subst hw1
  go_wp2_with fail
  go_quiet (first | (go_at_call 50; refine Calls.quiet_of_same (HSZ.out _)) | (go_at_call 51; refine Calls.quiet_of_same (rlen_any (H.out.d.later (below_drewN (Below.refl _ _) _)) HN.out.1 HN.out.2)))
  go_wp2
  go_ret
  unfold PChkRes
  rw [check_full HD.out HL.out (.inr HC.out)]
  exact ⟨rfl, F, H.out.later (below_drewN (Below.refl _ _) _), Step.log (Step.of_below (below_drewN (Below.refl _ _) _))⟩
theorem checkSt_cases (s : St) (g : Nat) (f : Nat → Nat) (len : Nat) : (checkSt s g f len).2 = 0 ∨ (checkSt s g f len).2 = 4 := by
  rw [checkSt_eq]
  rcases clean_cases s (fromOf s.n g) (half s.n) with h | h
  · rw [andThen_ok h]
    rcases lay_cases (s.clean (fromOf s.n g) (half s.n)).1 (fromOf s.n g) g f len with h2 | h2
    · rw [andThen_ok h2]; exact mark_cases _ _
    · rw [andThen_no (by rw [h2]; decide)]; exact .inr h2
  · rw [andThen_no (by rw [h]; decide)]; exact .inr h
theorem turn_ok {w : World} {D : Nat} {s : St} {F : Nat → Prop} (h : Disk w D s F) (g : Nat) (hg : g ≤ 2147483647) (hn : 4 ≤ s.n) (hs : s.n ≤ 1024) (hlo : s.lo.length < 700000) (a : Option Addr) (len cap : Nat) (f : Nat → Nat) (hl : len ≤ 8192) (hcap : len ≤ cap)
    (hr : Rw w a len f) (hf : ∀ i, i < len → f i < 256) (ha : ∀ x, a = some x → 0 < len → ¬ F x.block) (hroom : cnt len ≤ half s.n) (h0 : (checkSt s g f len).2 = 0) :
    Calls Try.prog 52 #[.pointer (some ⟨D, 0, none⟩), .int .i64 (g : Int), .slice a len cap] w fun r w' => r = .returned (.tuple #[.int .i64 ((fromOf s.n g : Int) + (cnt len : Int)), .int .i64 0]) ∧ ∃ F', Disk w' D (checkSt s g f len).1 F' ∧ Step F F' w w' := by
  refine (turn_any h g hg hn hs hlo a len cap f hl hcap hr hf ha hroom).mono ?_
  rintro e w' ⟨F', h1, h2, ⟨_, rfl⟩ | ⟨h3, _⟩⟩
  · exact ⟨rfl, F', h1, h2⟩
  · omega
theorem turn_no {w : World} {D : Nat} {s : St} {F : Nat → Prop} (h : Disk w D s F) (g : Nat) (hg : g ≤ 2147483647) (hn : 4 ≤ s.n) (hs : s.n ≤ 1024) (hlo : s.lo.length < 700000) (a : Option Addr) (len cap : Nat) (f : Nat → Nat) (hl : len ≤ 8192) (hcap : len ≤ cap)
    (hr : Rw w a len f) (hf : ∀ i, i < len → f i < 256) (ha : ∀ x, a = some x → 0 < len → ¬ F x.block) (hroom : cnt len ≤ half s.n) (h0 : (checkSt s g f len).2 = 4) :
    Calls Try.prog 52 #[.pointer (some ⟨D, 0, none⟩), .int .i64 (g : Int), .slice a len cap] w fun r w' => ∃ x : Int, r = .returned (.tuple #[.int .i64 x, .int .i64 4]) ∧ ∃ F', Disk w' D (checkSt s g f len).1 F' ∧ Step F F' w w' := by
  refine (turn_any h g hg hn hs hlo a len cap f hl hcap hr hf ha hroom).mono ?_
  rintro e w' ⟨F', h1, h2, ⟨h3, _⟩ | ⟨_, x, rfl⟩⟩
  · omega
  · exact ⟨x, rfl, F', h1, h2⟩
theorem pchk_good {w wA : World} {B D : Nat} {g : Lg} {s S : St} {F F' : Nat → Prop} {f : Nat → Nat} {len a : Nat} {x z : Int} (hc : g.check s f len = ((S, ⟨g.gen + 1, a, false⟩), 0)) (hd : g.down = false) (hx : x = ((g.gen + 1 : Nat) : Int)) (hz : z = (a : Int)) (h : PLog wA B D g S F') (hst : PStep B F F' w wA) :
    PChkRes w ((wA.setCell ⟨B, 1, none⟩ (.int .i64 x)).setCell ⟨B, 2, none⟩ (.int .i64 z)) B D g s F f len (.returned (.int .i64 0)) := by
  unfold PChkRes
  rw [hc]
  subst hx hz
  have hk : Keeps (fun b => b = B) wA ((wA.setCell ⟨B, 1, none⟩ (.int .i64 ((g.gen + 1 : Nat) : Int))).setCell ⟨B, 2, none⟩ (.int .i64 (a : Int))) := ((Keeps.refl (fun b => b = B) _).setCell B 1 _ (.inl rfl)).setCell B 2 _ (.inl rfl)
  have hl := (h.l.setGen (g.gen + 1)).setAt a
  have e : ({ ({ g with gen := g.gen + 1 } : Lg) with at_ := a } : Lg) = ⟨g.gen + 1, a, false⟩ := by cases g; simp only at hd; subst hd; rfl
  rw [e] at hl
  exact ⟨rfl, F', h.store hl hk, hst.trans (PStep.own hk)⟩
theorem pchk_dead {w wA : World} {B D : Nat} {g : Lg} {s : St} {F F' : Nat → Prop} {f : Nat → Nat} {len : Nat} {S : St × Nat} (hc : g.check s f len = ((S.1, { g with down := true }), 4)) (h : PLog wA B D g S.1 F') (hst : PStep B F F' w wA) :
    PChkRes w (wA.setCell ⟨B, 3, none⟩ (.bool true)) B D g s F f len (.returned (.int .i64 4)) := by
  unfold PChkRes
  rw [hc]
  exact ⟨rfl, F', papp_dead h, hst.trans (PStep.own ((Keeps.refl (fun b => b = B) _).setCell B 3 _ (.inl rfl)))⟩
set_option maxHeartbeats 3200000 in
theorem pcheck_ok {w : World} {B D : Nat} {g : Lg} {s : St} {F : Nat → Prop} (h : PLog w B D g s F) (hd : g.down = false) (hn : 4 ≤ s.n) (hs : s.n ≤ 1024) (hlo : s.lo.length < 700000) (a : Option Addr) (len cap : Nat) (f : Nat → Nat) (hl : ¬ 8192 < len) (hcap : len ≤ cap)
    (hr : Rw w a len f) (hf : ∀ i, i < len → f i < 256) (ha : ∀ x, a = some x → 0 < len → ¬ F x.block) (hg : g.gen < 2147483647) (hc : cnt len ≤ half s.n) (h0 : (checkSt s (g.gen + 1) f len).2 = 0) :
    Calls Try.prog 17 #[.pointer (some ⟨B, 0, none⟩), .slice a len cap] w fun r w' => PChkRes w w' B D g s F f len r := by
  have c0 := h.l.c0
  have c1 := h.l.c1
  have c3 := h.l.c3
  rw [hd] at c3
  have H := hide h
  have HD := hide hd
  have HL := hide hl
  have HG := hide hg
  have HC := hide hc
  have HN := hide (And.intro hn hs)
  have HR := hide hr
  have HF := hide hf
  have HA := hide ha
  have HX := hide (And.intro hlo hcap)
  have H0 := hide h0
  have hl' : decide ((8192 : Int) < (len : Int)) = false := decide_eq_false (by omega)
  have hg' : decide ((2147483647 : Int) ≤ (g.gen : Int)) = false := decide_eq_false (by omega)
  have hg2 : (g.gen : Int) ≤ 2147483647 := by omega
  have hc' : decide (half s.n < cnt len) = false := decide_eq_false (by omega)
  have HWRP : Hid (IntKind.i64.wrap ((g.gen : Int) + 1) = ((g.gen + 1 : Nat) : Int)) := by
    show IntKind.i64.wrap ((g.gen : Int) + 1) = _
    rw [IntKind.wrap_i64]; omega
  have hfc : (fromOf s.n (g.gen + 1) : Int) + (cnt len : Int) ≤ 1024 := by
    have h1 := fromOf_le s.n (g.gen + 1) hn
    have h2 : toOf s.n (g.gen + 1) = fromOf s.n (g.gen + 1) + half s.n := rfl
    omega
  have HSZ : Hid (∀ w : World, Calls Try.prog 50 #[.int .i64 (len : Int)] w fun e w' => e = .returned (.int .i64 (cnt len : Int)) ∧ w' = w) := fun w => by
    have := size_any (len : Int) w (by omega)
    rw [Int.toNat_natCast] at this
    exact this
  clear h hd hl hg hc hn hs hr hf ha hlo hcap h0
  go_enter Try.func17, Try.ntmps17
  go_wp2_with fail
  refine (isNone_in H.out.l).mono ?_
  rintro e w ⟨rfl, hw1⟩
  subst hw1
  go_wp2_with fail
  go_quiet (first | (go_at_call 50; refine Calls.quiet_of_same (HSZ.out _)) | (go_at_call 51; refine Calls.quiet_of_same (rlen_any (H.out.d.later (below_drewN (Below.refl _ _) _)) HN.out.1 HN.out.2)))
  go_wp2_with fail
  go_region_held3 (fun w' => w'.cell? ⟨B, 0, none⟩ = some (.pointer (some ⟨D, 0, none⟩)) ∧ w'.cell? ⟨B, 1, none⟩ = some (.int .i64 (g.gen : Int)))
    (first
      | (go_split_ands
         refine ⟨?_, ?_⟩ <;> (first | assumption | (simp only [cell_drewN]; assumption) | (simp only [World.cell?_drew, cell_drewN]; assumption))))
    (first
      | (go_split_ands; go_at_call 52; rw [HWRP.out]; refine (turn_ok (H.out.d.later (by first | exact below_drewN (Below.refl _ _) _ | exact below_drew1 (below_drewN (Below.refl _ _) _))) (g.gen + 1) (by have := HG.out; omega) HN.out.1 HN.out.2 HX.out.1 a len cap f (by have := HL.out; omega) HX.out.2 (HR.out.below (by first | exact below_drewN (Below.refl _ _) _ | exact below_drew1 (below_drewN (Below.refl _ _) _))) HF.out HA.out HC.out H0.out).mono ?_; rintro e wA ⟨rfl, FA, hdA, hstA⟩; have sA : Hid (Step F FA w wA) := Step.trans (Step.of_below (by first | exact below_drewN (Below.refl _ _) _ | exact below_drew1 (below_drewN (Below.refl _ _) _))) hstA; have qA : Hid (PLog wA B D g (checkSt s (g.gen + 1) f len).1 FA) := (H.out.later (by first | exact below_drewN (Below.refl _ _) _ | exact below_drew1 (below_drewN (Below.refl _ _) _))).step hdA hstA; have q0 := qA.out.l.c0; have q1 := qA.out.l.c1; have q2 := qA.out.l.c2; have q3 := qA.out.l.c3; rw [HD.out] at q3; have qf := qA.out.l.fz 3; have qf2 := qA.out.l.fz 2; have qf1 := qA.out.l.fz 1; clear hdA hstA))
  all_goals go_wp2
  all_goals go_ret
  all_goals exact pchk_good (check_ok HD.out HL.out (by have := HG.out; have := HC.out; omega) H0.out) HD.out (by omega) (by omega) qA.out (Step.log sA.out)
set_option maxHeartbeats 3200000 in
theorem pcheck_no {w : World} {B D : Nat} {g : Lg} {s : St} {F : Nat → Prop} (h : PLog w B D g s F) (hd : g.down = false) (hn : 4 ≤ s.n) (hs : s.n ≤ 1024) (hlo : s.lo.length < 700000) (a : Option Addr) (len cap : Nat) (f : Nat → Nat) (hl : ¬ 8192 < len) (hcap : len ≤ cap)
    (hr : Rw w a len f) (hf : ∀ i, i < len → f i < 256) (ha : ∀ x, a = some x → 0 < len → ¬ F x.block) (hg : g.gen < 2147483647) (hc : cnt len ≤ half s.n) (h0 : (checkSt s (g.gen + 1) f len).2 = 4) :
    Calls Try.prog 17 #[.pointer (some ⟨B, 0, none⟩), .slice a len cap] w fun r w' => PChkRes w w' B D g s F f len r := by
  have c0 := h.l.c0
  have c1 := h.l.c1
  have c3 := h.l.c3
  rw [hd] at c3
  have H := hide h
  have HD := hide hd
  have HL := hide hl
  have HG := hide hg
  have HC := hide hc
  have HN := hide (And.intro hn hs)
  have HR := hide hr
  have HF := hide hf
  have HA := hide ha
  have HX := hide (And.intro hlo hcap)
  have H0 := hide h0
  have hl' : decide ((8192 : Int) < (len : Int)) = false := decide_eq_false (by omega)
  have hg' : decide ((2147483647 : Int) ≤ (g.gen : Int)) = false := decide_eq_false (by omega)
  have hg2 : (g.gen : Int) ≤ 2147483647 := by omega
  have hc' : decide (half s.n < cnt len) = false := decide_eq_false (by omega)
  have HWRP : Hid (IntKind.i64.wrap ((g.gen : Int) + 1) = ((g.gen + 1 : Nat) : Int)) := by
    show IntKind.i64.wrap ((g.gen : Int) + 1) = _
    rw [IntKind.wrap_i64]; omega
  have hfc : (fromOf s.n (g.gen + 1) : Int) + (cnt len : Int) ≤ 1024 := by
    have h1 := fromOf_le s.n (g.gen + 1) hn
    have h2 : toOf s.n (g.gen + 1) = fromOf s.n (g.gen + 1) + half s.n := rfl
    omega
  have HSZ : Hid (∀ w : World, Calls Try.prog 50 #[.int .i64 (len : Int)] w fun e w' => e = .returned (.int .i64 (cnt len : Int)) ∧ w' = w) := fun w => by
    have := size_any (len : Int) w (by omega)
    rw [Int.toNat_natCast] at this
    exact this
  clear h hd hl hg hc hn hs hr hf ha hlo hcap h0
  go_enter Try.func17, Try.ntmps17
  go_wp2_with fail
  refine (isNone_in H.out.l).mono ?_
  rintro e w ⟨rfl, hw1⟩
  subst hw1
  go_wp2_with fail
  go_quiet (first | (go_at_call 50; refine Calls.quiet_of_same (HSZ.out _)) | (go_at_call 51; refine Calls.quiet_of_same (rlen_any (H.out.d.later (below_drewN (Below.refl _ _) _)) HN.out.1 HN.out.2)))
  go_wp2_with fail
  go_region_held3 (fun w' => w'.cell? ⟨B, 0, none⟩ = some (.pointer (some ⟨D, 0, none⟩)) ∧ w'.cell? ⟨B, 1, none⟩ = some (.int .i64 (g.gen : Int)))
    (first
      | (go_split_ands
         refine ⟨?_, ?_⟩ <;> (first | assumption | (simp only [cell_drewN]; assumption) | (simp only [World.cell?_drew, cell_drewN]; assumption))))
    (first
      | (go_split_ands; go_at_call 52; rw [HWRP.out]; refine (turn_no (H.out.d.later (by first | exact below_drewN (Below.refl _ _) _ | exact below_drew1 (below_drewN (Below.refl _ _) _))) (g.gen + 1) (by have := HG.out; omega) HN.out.1 HN.out.2 HX.out.1 a len cap f (by have := HL.out; omega) HX.out.2 (HR.out.below (by first | exact below_drewN (Below.refl _ _) _ | exact below_drew1 (below_drewN (Below.refl _ _) _))) HF.out HA.out HC.out H0.out).mono ?_; rintro e wA ⟨xx, rfl, FA, hdA, hstA⟩; have sA : Hid (Step F FA w wA) := Step.trans (Step.of_below (by first | exact below_drewN (Below.refl _ _) _ | exact below_drew1 (below_drewN (Below.refl _ _) _))) hstA; have qA : Hid (PLog wA B D g (checkSt s (g.gen + 1) f len).1 FA) := (H.out.later (by first | exact below_drewN (Below.refl _ _) _ | exact below_drew1 (below_drewN (Below.refl _ _) _))).step hdA hstA; have q0 := qA.out.l.c0; have q1 := qA.out.l.c1; have q2 := qA.out.l.c2; have q3 := qA.out.l.c3; rw [HD.out] at q3; have qf := qA.out.l.fz 3; have qf2 := qA.out.l.fz 2; have qf1 := qA.out.l.fz 1; clear hdA hstA))
  all_goals go_wp2_with fail
  all_goals (refine (failed_in qA.out.l 4).mono ?_; rintro e wB ⟨rfl, rfl⟩)
  all_goals go_wp2
  all_goals go_ret
  all_goals exact pchk_dead (check_no HD.out HL.out (by have := HG.out; have := HC.out; omega) rfl H0.out) qA.out (Step.log sA.out)
/-- Checkpoint, whatever the log is. -/
theorem pcheck_any {w : World} {B D : Nat} {g : Lg} {s : St} {F : Nat → Prop} (h : PLog w B D g s F) (hn : 4 ≤ s.n) (hs : s.n ≤ 1024) (hlo : s.lo.length < 700000) (a : Option Addr) (len cap : Nat) (f : Nat → Nat) (hcap : len ≤ cap)
    (hr : Rw w a len f) (hf : ∀ i, i < len → f i < 256) (ha : ∀ x, a = some x → 0 < len → ¬ F x.block) : Calls Try.prog 17 #[.pointer (some ⟨B, 0, none⟩), .slice a len cap] w fun r w' => PChkRes w w' B D g s F f len r := by
  cases hd : g.down with
  | true => exact pcheck_down h hd a len cap f
  | false =>
    by_cases hl : 8192 < len
    · exact pcheck_arg h hd a len cap f hl
    · by_cases hg : g.gen < 2147483647
      · by_cases hc : half s.n < cnt len
        · exact pcheck_full h hd hn hs a len cap f hl hg hc
        · rcases checkSt_cases s (g.gen + 1) f len with h0 | h0
          · exact pcheck_ok h hd hn hs hlo a len cap f hl hcap hr hf ha hg (by omega) h0
          · exact pcheck_no h hd hn hs hlo a len cap f hl hcap hr hf ha hg (by omega) h0
      · exact pcheck_last h hd a len cap f hl (by omega)
end Go.Proofs.Ytbecchoidglaeaa
