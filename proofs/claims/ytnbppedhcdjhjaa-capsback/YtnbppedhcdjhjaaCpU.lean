/- The program's each. -/
import Derived.Test.YtnbppedhcdjhjaaCpT
import Derived.Deep.QuietTactic
import Derived.BigQuiet
import Derived.Deep.RegionHeld3
namespace Go.Proofs.Ytnbppedhcdjhjaa
open Go.RowKit
set_option maxRecDepth 100000

/-- What taking leaves. -/
def TookI (Inv : Cp → World → Prop) (r : Option Cp) (e : Ending) (w : World) : Prop := match r with
  | none => e = .returned (.bool false)
  | some c => e = .returned (.bool true) ∧ Inv c w
/-- What lies from place k on. -/
theorem brd_from {w : World} {b o : Nat} {bs : List Nat} (h : BRd w (some ⟨b, o, none⟩) bs) (k l : Nat) (hk : k + l ≤ bs.length) : BRd w (some ⟨b, o + k, none⟩) ((bs.drop k).take l) := by
  have hle : ((bs.drop k).take l).length = l := by rw [List.length_take, List.length_drop]; omega
  refine ⟨⟨by have := h.1.1; omega, fun hp => ⟨b, o + k, rfl, fun i hi => ?_⟩⟩, fun x hx => h.2 x (List.mem_of_mem_drop (List.mem_of_mem_take hx))⟩
  obtain ⟨b9, o9, e9, h8⟩ := h.1.2 (by omega)
  cases e9
  have h9 : w.cell? ⟨b, o + (k + i), none⟩ = some (.int .u8 (bs.getD (k + i) 0 : Int)) := h8 (k + i) (by omega)
  rw [← Nat.add_assoc] at h9
  show _ = some (Value.int .u8 ((((bs.drop k).take l).getD i 0 : Nat) : Int))
  rw [h9, List.getD_eq_getElem?_getD, List.getD_eq_getElem?_getD, List.getElem?_take_of_lt (by omega), List.getElem?_drop]
theorem brd_none (w : World) (a : Option Addr) : BRd w a [] := ⟨Rw.nil _ _ _, by simp⟩
set_option maxHeartbeats 3200000 in
theorem each_inv (f : Nat → List Nat → Cp → Option Cp) (K : Nat) (cs : Array Value) (Inv : Cp → World → Prop) (F : Nat → Prop) (a : Option Addr) (cap : Nat) (bs : List Nat) (c0 : Cp) (w : World) (hl : bs.length ≤ 10000) (hcap : bs.length ≤ cap) (hr : BRd w a bs)
    (hF : ∀ x, a = some x → 0 < bs.length → ¬ F x.block) (hi : Inv c0 w)
    (hent : ∀ args w, (callFunc K args).run Try.prog w = .ok (.enter K args) w)
    (hst : ∀ c w1 w2, Inv c w1 → Below w1.heap.size w1 w2 → Inv c w2)
    (hcall : ∀ (w1 : World) (c : Cp) (k : Nat) (a : Option Addr) (cap : Nat) (vs : List Nat), Keeps F w w1 → Inv c w1 → BRd w1 a vs → (∀ x, a = some x → 0 < vs.length → ¬ F x.block) → vs.length ≤ 255 → vs.length ≤ cap → k < 256 →
      Calls Try.prog K (#[.int .i64 (k : Int), .slice a vs.length cap] ++ cs) w1 fun e w2 => TookI Inv (f k vs c) e w2 ∧ Keeps F w1 w2) :
    Calls Try.prog 23 #[.slice a bs.length cap, .func (.func K) #[] cs] w fun e w' => TookI Inv (eachC f bs c0) e w' ∧ Keeps F w w' := by
  have HR := hide hr
  have HF := hide hF
  have HI := hide hi
  have HST := hide hst
  have HC := hide hcall
  clear hr hF hi hst hcall
  go_enter Try.func23, Try.ntmps23
  go_wp2
  go_loopw [0] (fun u wq => ∃ (rest : List Nat) (a : Option Addr) (n cp : Nat) (c : Cp), u = .slice a n cp ∧ Hid (rest.length = n) ∧ n ≤ cp ∧ n ≤ 10000 ∧ Hid (eachC f bs c0 = eachC f rest c) ∧ Hid (BRd wq a rest) ∧ Hid (∀ x, a = some x → 0 < n → ¬ F x.block) ∧ Hid (Inv c wq) ∧ Hid (Keeps F w wq)) (fun u _ => sliceLen u)
  case atStart => exact ⟨bs, a, _, cap, c0, rfl, rfl, hcap, hl, rfl, HR, HF, HI, Keeps.refl _ _⟩
  case round =>
    clear HR HF HI
    obtain ⟨rest, a1, n, cp, c, rfl, HN, hnc, hn, HE, HB, HX, HI, HK⟩ := hrel
    by_cases h0 : n = 0
    · have HE2 : Hid (eachC f bs c0 = some c) := by
        show _ = _
        rw [HE.out, List.eq_nil_of_length_eq_zero (HN.out.trans h0), eachC_end]
      subst h0
      go_wp2
      go_ret
      exact ⟨by rw [HE2.out]; exact ⟨rfl, HI.out⟩, HK.out⟩
    · have hne : rest ≠ [] := fun e => h0 (by rw [← HN.out, e]; rfl)
      have hn0 : (0 : Int) < (n : Int) := by omega
      by_cases h2 : n < 2
      · have HE2 : Hid (eachC f bs c0 = none) := by
          show _ = _
          rw [HE.out, eachC_no hne (decide_eq_false (fun h => by rw [HN.out] at h; omega))]
        have h2i : (n : Int) < 2 := by omega
        go_wp2
        go_ret
        exact ⟨by rw [HE2.out]; rfl, HK.out⟩
      · obtain ⟨b, o, rfl, hc⟩ := HB.out.1.2 (by rw [HN.out]; omega)
        have hbF : ¬ F b := HX.out ⟨b, o, none⟩ rfl (by omega)
        obtain ⟨l, hl1⟩ : ∃ l, l = rest.getD 1 0 := ⟨_, rfl⟩
        obtain ⟨k, hk1⟩ : ∃ k, k = rest.getD 0 0 := ⟨_, rfl⟩
        have y1 : wr.cell? ⟨b, o + 1, none⟩ = some (.int .u8 (l : Int)) := by rw [hl1]; exact hc 1 (by rw [HN.out]; omega)
        have y0 : wr.cell? ⟨b, o, none⟩ = some (.int .u8 (k : Int)) := by rw [hk1]; exact hc 0 (by rw [HN.out]; omega)
        have hl256 : l < 256 := by rw [hl1]; exact getD_lt256 HB.out.2 1
        have hk256 : k < 256 := by rw [hk1]; exact getD_lt256 HB.out.2 0
        have hbs : b < wr.heap.size := by have := World.block_lt_of_cell? wr _ y0; simpa using this
        have hn1 : (1 : Int) < (n : Int) := by omega
        have h2i : ¬ ((n : Int) < 2) := by omega
        by_cases hend : n < 2 + l
        · have HE2 : Hid (eachC f bs c0 = none) := by
            show _ = _
            rw [HE.out, eachC_no hne (decide_eq_false (fun h => by rw [HN.out, ← hl1] at h; omega))]
          have hei : (n : Int) < 2 + (l : Int) := by omega
          clear HE HB HX HC hc hl1 hk1 hne h0 h2
          go_wp2_with fail
          go_quiet (fail)
          go_wp2
          go_ret
          exact ⟨by rw [HE2.out]; rfl, ⟨HK.out.os, HK.out.tape, HK.out.output, HK.out.size, HK.out.block⟩⟩
        · have hok : okE rest = true := decide_eq_true (by rw [HN.out, ← hl1]; omega)
          have HE2 : Hid (eachC f bs c0 = (f k ((rest.drop 2).take l) c).bind (eachC f (rest.drop (2 + l)))) := by
            show _ = _
            rw [HE.out, eachC_go hok, ← hl1, ← hk1]
          have hei : decide ((n : Int) < 2 + (l : Int)) = false := decide_eq_false (by omega)
          have hvl : ((rest.drop 2).take l).length = l := by rw [List.length_take, List.length_drop, HN.out]; omega
          have hbd : Below wr.heap.size wr wr.drew := (Below.refl _ _).drew
          have HKd : Hid (Keeps F w wr.drew) := HK.out.drew
          have HBd : Hid (BRd wr.drew (some ⟨b, o, none⟩) rest) := HB.out.below hbd
          have HC1 : Hid (∀ a3 c3, (l = 0 ∨ a3 = some ⟨b, o + 2, none⟩) → l ≤ c3 → Calls Try.prog K (#[.int .i64 (k : Int), .slice a3 l c3] ++ cs) wr.drew fun e w2 => TookI Inv (f k ((rest.drop 2).take l) c) e w2 ∧ Keeps F wr.drew w2) := fun a3 c3 ha hlc => by
            have h9 := HC.out wr.drew c k a3 c3 ((rest.drop 2).take l) HKd.out (HST.out c wr wr.drew HI.out hbd) ?_ ?_ (by omega) (by omega) hk256
            · rw [hvl] at h9; exact h9
            · rcases ha with rfl | rfl
              · rw [List.take_zero]; exact brd_none _ _
              · exact brd_from HBd.out 2 l (by rw [HN.out]; omega)
            · intro x hx hp
              rcases ha with rfl | rfl
              · rw [hvl] at hp; omega
              · cases hx; exact hbF
          have HBB : Hid (∀ W, Keeps F wr.drew W → BRd W (some ⟨b, o, none⟩) rest) := fun W hk => HBd.out.keeps hk (fun x e _ => by cases e; exact hbF)
          have HND : Hid ((rest.drop (2 + l)).length = n - (2 + l)) := by show _ = _; rw [List.length_drop, HN.out]
          have hs0 : wr.drew.cell? ⟨b, o, none⟩ = some (.int .u8 (k : Int)) := y0
          have HS0 := hide hs0
          have htn : (2 + (l : Int)).toNat - 2 = l := by omega
          have HSW : Hid (∀ W, Keeps F wr.drew W → W.cell? ⟨b, o, none⟩ = some (.int .u8 (k : Int))) := fun W hk => by rw [hk.cell ⟨b, o, none⟩ hbs hbF]; exact HS0.out
          have hwk : IntKind.i64.wrap (k : Int) = (k : Int) := by rw [IntKind.wrap_i64]; omega
          clear HE HB HC hc hl1 hk1 hne h0 h2 hok hbd hs0
          by_cases hc2 : cp = 2
          · have hl0 : l = 0 := by omega
            have hn2 : n = 2 := by omega
            subst hl0
            subst hn2
            subst hc2
            have HC2 := hide (HC1.out (some ⟨b, o, none⟩) 0 (.inl rfl) (by omega))
            clear HC1
            cases hfr : f k ((rest.drop 2).take 0) c with
            | none =>
              rw [hfr] at HC2 HE2
              go_wp2_with fail
              go_region_held3 (fun w' => w'.cell? ⟨b, o, none⟩ = some (.int .u8 (k : Int)))
                (with_reducible first | exact HS0.out | exact HS2.out | fail)
                (first
                  | (try rw [hwk]
                     try rw [htn]
                     with_reducible refine HC2.out.mono ?_
                     rintro e w2 ⟨ht, hk2⟩
                     obtain rfl : e = _ := ht
                     have HK2 := hide hk2
                     have HS2 := hide (HSW.out w2 hk2)
                     clear hk2))
              all_goals go_wp2
              all_goals go_ret
              all_goals exact ⟨by rw [HE2.out]; rfl, HKd.out.trans HK2.out (fun _ _ h => h)⟩
            | some c2 =>
              rw [hfr] at HC2 HE2
              go_wp2_with fail
              go_region_held3 (fun w' => w'.cell? ⟨b, o, none⟩ = some (.int .u8 (k : Int)))
                (with_reducible first | exact HS0.out | exact HS2.out | fail)
                (first
                  | (try rw [hwk]
                     try rw [htn]
                     with_reducible refine HC2.out.mono ?_
                     rintro e w2 ⟨ht, hk2⟩
                     obtain ⟨rfl, hi2⟩ := ht
                     have HI2 := hide hi2
                     have HK2 := hide hk2
                     have HS2 := hide (HSW.out w2 hk2)
                     clear hk2))
              all_goals go_wp2
              all_goals exact ⟨⟨rest.drop (2 + 0), _, _, _, c2, rfl, HND.out.trans (by omega), by omega, by omega, HE2, by show BRd _ _ _; rw [List.eq_nil_of_length_eq_zero (HND.out.trans (by omega))]; exact brd_none _ _, fun x _ h => absurd h (by omega), HI2, HKd.out.trans HK2.out (fun _ _ h => h)⟩, by simp [sliceLen]⟩
          · have HC2 := hide (HC1.out (some ⟨b, o + 2, none⟩) (cp - 2) (.inr rfl) (by omega))
            have hs1 : (2 : Int) ≤ 2 + (l : Int) := by omega
            have hs2 : 2 + (l : Int) ≤ (cp : Int) := by omega
            have hs3 : 2 + (l : Int) ≤ (n : Int) := by omega
            clear HC1
            cases hfr : f k ((rest.drop 2).take l) c with
            | none =>
              rw [hfr] at HC2 HE2
              go_wp2_with fail
              go_region_held3 (fun w' => w'.cell? ⟨b, o, none⟩ = some (.int .u8 (k : Int)))
                (with_reducible first | exact HS0.out | exact HS2.out | fail)
                (first
                  | (try rw [hwk]
                     try rw [htn]
                     with_reducible refine HC2.out.mono ?_
                     rintro e w2 ⟨ht, hk2⟩
                     obtain rfl : e = _ := ht
                     have HK2 := hide hk2
                     have HS2 := hide (HSW.out w2 hk2)
                     clear hk2))
              all_goals go_wp2
              all_goals go_ret
              all_goals exact ⟨by rw [HE2.out]; rfl, HKd.out.trans HK2.out (fun _ _ h => h)⟩
            | some c2 =>
              by_cases hce : cp = 2 + l
              · have hl0 : ¬ l = 0 := by omega
                subst hce
                rw [show 2 + l - 2 = l from by omega] at HC2
                rw [hfr] at HC2 HE2
                go_wp2_with fail
                go_region_held3 (fun w' => w'.cell? ⟨b, o, none⟩ = some (.int .u8 (k : Int)))
                  (with_reducible first | exact HS0.out | exact HS2.out | fail)
                  (first
                    | (try rw [hwk]
                       try rw [htn]
                       with_reducible refine HC2.out.mono ?_
                       rintro e w2 ⟨ht, hk2⟩
                       obtain ⟨rfl, hi2⟩ := ht
                       have HI2 := hide hi2
                       have HK2 := hide hk2
                       have HS2 := hide (HSW.out w2 hk2)
                       clear hk2))
                all_goals go_wp2
                all_goals exact ⟨⟨rest.drop (2 + l), _, _, _, c2, rfl, HND.out.trans (by omega), by omega, by omega, HE2, by show BRd _ _ _; rw [List.eq_nil_of_length_eq_zero (HND.out.trans (by omega))]; exact brd_none _ _, fun x _ h => absurd h (by omega), HI2, HKd.out.trans HK2.out (fun _ _ h => h)⟩, by simp [sliceLen]; omega⟩
              · rw [hfr] at HC2 HE2
                go_wp2_with fail
                go_region_held3 (fun w' => w'.cell? ⟨b, o, none⟩ = some (.int .u8 (k : Int)))
                  (with_reducible first | exact HS0.out | exact HS2.out | fail)
                  (first
                    | (try rw [hwk]
                       try rw [htn]
                       with_reducible refine HC2.out.mono ?_
                       rintro e w2 ⟨ht, hk2⟩
                       obtain ⟨rfl, hi2⟩ := ht
                       have HI2 := hide hi2
                       have HK2 := hide hk2
                       have HS2 := hide (HSW.out w2 hk2)
                       clear hk2))
                all_goals go_wp2
                all_goals exact ⟨⟨rest.drop (2 + l), _, _, _, c2, rfl, HND, by omega, by omega, HE2, by show BRd _ _ _; have h9 := brd_from (HBB.out _ HK2.out) (2 + l) (n - (2 + l)) (by rw [HN.out]; omega); rw [List.take_of_length_le (by rw [HND.out]; exact Nat.le_refl _)] at h9; exact h9, fun x hx _ => by cases hx; exact hbF, HI2, HKd.out.trans HK2.out (fun _ _ h => h)⟩, by simp [sliceLen]; omega⟩
end Go.Proofs.Ytnbppedhcdjhjaa
