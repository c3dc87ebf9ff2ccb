/- The document's Apply, GoodRules. -/
import Derived.Test.YtejbajjkbjaadaaPoC
import Derived.Test.YtejbajjkbjaadaaPfxRf
import Derived.Test.YtejbajjkbjaadaaLater
namespace Go.Proofs.Ytejbajjkbjaadaa
open Go.RowKit
set_option maxRecDepth 100000

theorem rcov_is {A B : Nat} {L M : Int} {y : Bool} (w : World) (hA : A < 4294967296) (hB : B < 4294967296) (hy : covB A L B M = y) :
    Calls Try.prog 11 #[pfx A L, pfx B M] w fun e w' => e = .returned (.bool y) ∧ Below w.heap.size w w' := by
  rw [← hy]
  exact rcovers_any A B L M w hA hB
theorem rright_is {A : Nat} {L : Int} {b : Bool} (w : World) (h : rightB A L = b) : Calls Try.prog 12 #[pfx A L] w fun e w' => e = .returned (.bool b) ∧ Below w.heap.size w w' := by
  rw [← h]
  exact right_any A L w
/-- What stands at the beginning of a round. -/
structure ApSt (w wq : World) (P A : Nat) (L : Int) : Prop where
  b : Below w.heap.size w wq
  p0 : wq.cell? ⟨P, 0, none⟩ = some (.int .u32 (A : Int))
  p1 : wq.cell? ⟨P, 1, none⟩ = some (.int .i64 L)
theorem ApSt.later {w wq : World} {P A : Nat} {L : Int} (h : ApSt w wq P A L) (x : Later wq) : ApSt w x.w P A L :=
  ⟨h.b.trans (x.h.mono h.b.size), x.cell h.p0, x.cell h.p1⟩
set_option maxHeartbeats 1600000 in
theorem rapply_some (g o n c A : Nat) (L : Int) (l : List Rul) (w : World) (hn : n ≤ 1000) (hl : l.length = n) (hr : RulesRd w g o l) (hA : A < 4294967296) :
    Calls Try.prog 8 #[.slice (some ⟨g, o, none⟩) n c, pfx A L] w fun e w' => e = .returned (.tuple #[.int .i64 (applyR l A L).1, .bool (applyR l A L).2]) ∧ Below w.heap.size w w' := by
  have HL := hide hl
  have HR := hide hr
  clear hl hr
  unfold pfx
  go_enter Try.func8, Try.ntmps8
  go_wp2
  go_loopw [6] (fun i wq => ∃ j : Nat, j ≤ n ∧ i = .int .i64 j ∧ Hid (∀ (q : Nat) (r : Rul), q < j → l[q]? = some r → spk A L r = false) ∧ Hid (ApSt w wq w.heap.size A L)) (fun i _ => n - (intOf i).toNat)
  case atStart => exact ⟨0, Nat.zero_le _, rfl, fun q r hq => absurd hq (by omega), ⟨(Below.refl _ _).alloc (Nat.le_refl _) _, by simp [go_sem], by simp [go_sem]⟩⟩
  case round =>
    obtain ⟨j, hj, rfl, HA, HB⟩ := hrel
    by_cases hlt : j < n
    · obtain ⟨r, hr⟩ : ∃ r, l[j]? = some r := ⟨l[j]'(by rw [HL.out]; exact hlt), List.getElem?_eq_getElem _⟩
      obtain ⟨R0, hrA⟩ := HR.out j r hr
      have R := R0.below HB.out.b (Nat.le_refl _)
      have c0 := R.c0
      have c1 := R.c1
      have c2 := R.c2
      have c3 := R.c3
      have c4 := R.c4
      have c5 := R.c5
      have p0 := HB.out.p0
      have p1 := HB.out.p1
      have c0x : ∀ x : Later wr, x.w.cell? ⟨g, o + j * 6, none⟩ = some (.int .u32 (r.A : Int)) := fun x => x.cell c0
      have c1x : ∀ x : Later wr, x.w.cell? ⟨g, o + j * 6 + 1, none⟩ = some (.int .i64 r.L) := fun x => x.cell c1
      have c2x : ∀ x : Later wr, x.w.cell? ⟨g, o + j * 6 + 2, none⟩ = some (.int .i64 r.mn) := fun x => x.cell c2
      have c3x : ∀ x : Later wr, x.w.cell? ⟨g, o + j * 6 + 3, none⟩ = some (.int .i64 r.mx) := fun x => x.cell c3
      have p0x : ∀ x : Later wr, x.w.cell? ⟨w.heap.size, 0, none⟩ = some (.int .u32 (A : Int)) := fun x => x.cell p0
      have p1x : ∀ x : Later wr, x.w.cell? ⟨w.heap.size, 1, none⟩ = some (.int .i64 L) := fun x => x.cell p1
      have hk0 : (0 : Int) ≤ (j : Int) := Int.natCast_nonneg _
      have hk1 : (j : Int) < (n : Int) := by omega
      have HRJ := hide hr
      clear hr
      have hne := later_some wr
      cases hcv : covB r.A r.L A L with
      | true =>
        have HK : Hid (∀ x : Later wr, Calls Try.prog 11 #[.agg #[.int .u32 (r.A : Int), .int .i64 r.L], .agg #[.int .u32 (A : Int), .int .i64 L]] x.w fun e w' => e = .returned (.bool true) ∧ ∃ y : Later wr, w' = y.w) := fun x => calls_later x (rcov_is x.w hrA hA hcv)
        by_cases hmn : r.mn ≤ L
        · by_cases hmx : L ≤ r.mx
          · have hs : spk A L r = true := by unfold spk ftB; rw [hcv, decide_eq_true hmn, decide_eq_true hmx]; rfl
            have HV := hide (applyR_some HRJ.out hs HA.out)
            clear hs hcv
            go_wp2_with fail
            refine region_later (by kernel_rfl) (by kernel_rfl) ?_
            repeat (go_big_quiet_step (first | (go_at_call 11; with_reducible exact HK.out _)))
            refine wpQuiet_nil ?_
            rintro _ ⟨xq, rfl⟩
            have HX := hide (HB.out.later xq)
            have d4 := xq.cell c4
            have d5 := xq.cell c5
            clear c0x c1x c2x c3x p0x p1x c0 c1 c2 c3 c4 c5 p0 p1 HK hne R R0 HB
            generalize xq.w = w3 at *
            cases hd : r.d with
            | true =>
              rw [hd] at d4
              have HV2 : Hid (applyR l A L = (0, false)) := by show _ = _; rw [HV.out, hd]; rfl
              go_wp2
              exact bodyPost_ret (v := .tuple #[.int .i64 0, .bool false]) (by simp [results, Try.results8, go_sem]) rfl ⟨by rw [HV2.out], HX.out.b⟩
            | false =>
              rw [hd] at d4
              have HV2 : Hid (applyR l A L = (r.pf, true)) := by show _ = _; rw [HV.out, hd]; rfl
              go_wp2
              exact bodyPost_ret (v := .tuple #[.int .i64 r.pf, .bool true]) (by simp [results, Try.results8, go_sem]) rfl ⟨by rw [HV2.out], HX.out.b⟩
          · have hmx2 : decide (L ≤ r.mx) = false := decide_eq_false hmx
            have hs : spk A L r = false := by unfold spk ftB; rw [hmx2]; simp
            have HV : Hid (∀ (q : Nat) (r : Rul), q < j + 1 → l[q]? = some r → spk A L r = false) := none_more HA.out HRJ.out hs
            clear hs hcv hmx
            go_wp2_with fail
            refine region_later (by kernel_rfl) (by kernel_rfl) ?_
            repeat (go_big_quiet_step (first | (go_at_call 11; with_reducible exact HK.out _)))
            refine wpQuiet_nil ?_
            rintro _ ⟨xq, rfl⟩
            have HX := hide (HB.out.later xq)
            clear c0x c1x c2x c3x p0x p1x c0 c1 c2 c3 c4 c5 p0 p1 HK hne R R0 HB
            generalize xq.w = w3 at *
            go_wp2
            exact ⟨⟨j + 1, by omega, by go_num, HV, HX⟩, by simp [intOf]; omega⟩
        · have hmn2 : decide (r.mn ≤ L) = false := decide_eq_false hmn
          have hs : spk A L r = false := by unfold spk ftB; rw [hmn2]; simp
          have HV : Hid (∀ (q : Nat) (r : Rul), q < j + 1 → l[q]? = some r → spk A L r = false) := none_more HA.out HRJ.out hs
          clear hs hcv hmn
          go_wp2_with fail
          refine region_later (by kernel_rfl) (by kernel_rfl) ?_
          repeat (go_big_quiet_step (first | (go_at_call 11; with_reducible exact HK.out _)))
          refine wpQuiet_nil ?_
          rintro _ ⟨xq, rfl⟩
          have HX := hide (HB.out.later xq)
          clear c0x c1x c2x c3x p0x p1x c0 c1 c2 c3 c4 c5 p0 p1 HK hne R R0 HB
          generalize xq.w = w3 at *
          go_wp2
          exact ⟨⟨j + 1, by omega, by go_num, HV, HX⟩, by simp [intOf]; omega⟩
      | false =>
        have HK : Hid (∀ x : Later wr, Calls Try.prog 11 #[.agg #[.int .u32 (r.A : Int), .int .i64 r.L], .agg #[.int .u32 (A : Int), .int .i64 L]] x.w fun e w' => e = .returned (.bool false) ∧ ∃ y : Later wr, w' = y.w) := fun x => calls_later x (rcov_is x.w hrA hA hcv)
        have hs : spk A L r = false := by unfold spk; rw [hcv]; rfl
        have HV : Hid (∀ (q : Nat) (r : Rul), q < j + 1 → l[q]? = some r → spk A L r = false) := none_more HA.out HRJ.out hs
        clear hs hcv
        go_wp2_with fail
        refine region_later (by kernel_rfl) (by kernel_rfl) ?_
        repeat (go_big_quiet_step (first | (go_at_call 11; with_reducible exact HK.out _)))
        refine wpQuiet_nil ?_
        rintro _ ⟨xq, rfl⟩
        have HX := hide (HB.out.later xq)
        clear c0x c1x c2x c3x p0x p1x c0 c1 c2 c3 c4 c5 p0 p1 HK hne R R0 HB
        generalize xq.w = w3 at *
        go_wp2
        exact ⟨⟨j + 1, by omega, by go_num, HV, HX⟩, by simp [intOf]; omega⟩
    · have HV := hide (applyR_none (A := A) (L := L) (l := l) fun q r hr => HA.out q r (by have := (List.getElem?_eq_some_iff.1 hr).1; rw [HL.out] at this; omega) hr)
      go_wp2
      exact bodyPost_ret (v := .tuple #[.int .i64 (-1), .bool true]) (by simp [results, Try.results8, go_sem]) rfl ⟨by rw [HV.out], HB.out.b⟩
set_option maxHeartbeats 400000 in
theorem rapply_empty (a : Option Addr) (c A : Nat) (L : Int) (w : World) :
    Calls Try.prog 8 #[.slice a 0 c, pfx A L] w fun e w' => e = .returned (.tuple #[.int .i64 (-1), .bool true]) ∧ Below w.heap.size w w' := by
  unfold pfx
  go_enter Try.func8, Try.ntmps8
  go_wp2
  go_loopw [6] (fun i wq => i = .int .i64 0 ∧ Hid (Below w.heap.size w wq)) (fun i _ => 0 - (intOf i).toNat)
  case atStart => exact ⟨rfl, (Below.refl _ _).alloc (Nat.le_refl _) _⟩
  case round =>
    obtain ⟨rfl, HB⟩ := hrel
    go_wp2
    exact bodyPost_ret (v := .tuple #[.int .i64 (-1), .bool true]) (by simp [results, Try.results8, go_sem]) rfl ⟨rfl, HB.out⟩
theorem rapply_any (a : Option Addr) (n c A : Nat) (L : Int) (l : List Rul) (w : World) (hn : n ≤ 1000) (hl : l.length = n) (hr : RulesIn w a l) (hA : A < 4294967296) :
    Calls Try.prog 8 #[.slice a n c, pfx A L] w fun e w' => e = .returned (.tuple #[.int .i64 (applyR l A L).1, .bool (applyR l A L).2]) ∧ Below w.heap.size w w' := by
  rcases hr with h | ⟨g, o, e, h⟩
  · subst h
    simp at hl
    subst hl
    exact rapply_empty a c A L w
  · subst e
    exact rapply_some g o n c A L l w hn hl h hA
end Go.Proofs.Ytejbajjkbjaadaa
