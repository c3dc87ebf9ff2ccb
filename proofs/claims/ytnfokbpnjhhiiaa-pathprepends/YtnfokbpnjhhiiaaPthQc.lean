/- The program's Decode. -/
import Derived.Test.YtnfokbpnjhhiiaaPthQd
import Derived.Test.YtnfokbpnjhhiiaaPthQg
namespace Go.Proofs.Ytnfokbpnjhhiiaa
open Go.RowKit
set_option maxRecDepth 100000

theorem own_keeps {w w' : World} {B e size n : Nat} {v : Value} {xs : List Value} {F : Nat → Prop} (h : w.ownsRow B e size v n xs) (hk : Keeps F w w') (hF : ∀ k, F k → k < B) : w'.ownsRow B e size v n xs := by
  refine ⟨h.1, ?_⟩
  rcases h.2 with hh | ⟨g, cap, cur, e1, hb, hc, rest⟩
  · exact .inl hh
  · refine .inr ⟨g, cap, cur, e1, hb, ?_, rest⟩
    rw [hk.block g (Array.getElem?_eq_some_iff.1 hc).1 (fun h9 => absurd (hF g h9) (by omega))]
    exact hc
theorem OwnPath.keeps {w w' : World} {B : Nat} {v : Value} {ss : List (Bool × List Int)} {F : Nat → Prop} (h : OwnPath w B v ss) (hk : Keeps F w w') (hF : ∀ k, F k → k < B) : OwnPath w' B v ss := by
  obtain ⟨cs, ho, hc⟩ := h
  refine ⟨cs, own_keeps ho hk hF, fun i s hi => ?_⟩
  obtain ⟨h1, u, h2, h3⟩ := hc i s hi
  exact ⟨h1, u, h2, own_keeps h3 hk hF⟩
theorem OwnPath.base {w : World} {B B' : Nat} {v : Value} {ss : List (Bool × List Int)} (h : OwnPath w B v ss) (hB : B' ≤ B) : OwnPath w B' v ss := by
  obtain ⟨cs, ho, hc⟩ := h
  refine ⟨cs, own_base ho hB, fun i s hi => ?_⟩
  obtain ⟨h1, u, h2, h3⟩ := hc i s hi
  exact ⟨h1, u, h2, own_base h3 hB⟩
theorem Chk.under {w w' : World} {B x : Nat} (h : Chk w B x) (hb : Below (B + 9) w w') : Chk w' B x := by
  have key : ∀ k, k ≤ 8 → w'.cell? ⟨B + k, 0, none⟩ = w.cell? ⟨B + k, 0, none⟩ := fun k hk => hb.cell (p := ⟨B + k, 0, none⟩) (by show B + k < B + 9; omega)
  exact ⟨by rw [← h.l1]; exact key 0 (by omega), by rw [← h.m1]; exact key 1 (by omega), by rw [← h.l2]; exact key 2 (by omega), by rw [← h.m2]; exact key 3 (by omega), by rw [← h.m3]; exact key 4 (by omega), by rw [← h.ct]; exact key 5 (by omega), by rw [hb.frozen (p := ⟨B + 5, 0, none⟩) (by show B + 5 < B + 9; omega)]; exact h.fz,
    by rw [← h.f1]; exact key 6 (by omega), by rw [← h.f2]; exact key 7 (by omega), by rw [← h.f3]; exact key 8 (by omega)⟩
theorem goodP_app {a b : List (Bool × List Int)} (h : goodP a = false) : goodP (a ++ b) = false := by
  unfold goodP at h ⊢
  rw [List.all_append]
  rcases (Bool.and_eq_false_iff).1 h with h | h
  · rw [h]; rfl
  · have h2 : sumP a ≤ sumP (a ++ b) := by
      have := sumP_take (a ++ b) a.length
      rwa [List.take_left] at this
    rw [decide_eq_false (by have := of_decide_eq_false h; omega), Bool.and_false]
theorem segsFuel_bad (f : Nat → Nat) (len : Nat) : ∀ (k i : Nat) (acc : List (Bool × List Int)), goodP acc = false → segsFuel f len k i acc = none
  | 0, i, acc, h => by rw [segsFuel]; unfold fin; rw [h]; rfl
  | k + 1, i, acc, h => by
    rw [segsFuel]
    by_cases hi : i < len
    · rw [if_pos hi]
      by_cases ho : segOk f len i = true
      · rw [if_pos ho]; exact segsFuel_bad f len k _ _ (goodP_app h)
      · rw [if_neg ho]
    · rw [if_neg hi]; unfold fin; rw [h]; rfl
theorem segsRun_bad {f : Nat → Nat} {len i : Nat} {acc : List (Bool × List Int)} (h : goodP acc = false) : segsRun f len i acc = none := segsFuel_bad f len _ i acc h
theorem goodP_snoc (acc : List (Bool × List Int)) (s : Bool × List Int) (h : acc.all okS = true) : goodP (acc ++ [s]) = (okS s && decide (sumP acc + s.2.length ≤ 64)) := by
  unfold goodP
  rw [List.all_append, h, sumP_snoc]
  simp
section
attribute [local go_sem ↓] kept_appendS
set_option maxHeartbeats 3200000 in
theorem pdecode_some (b off len cap : Nat) (f : Nat → Nat) (w : World) (hl : len ≤ 10000) (hlc : len ≤ cap) (hf : ∀ j, j < len → f j < 256) (hcell : ∀ j, j < len → w.cell? ⟨b, off + j, none⟩ = some (.int .u8 (f j : Int))) :
    Calls Try.prog 15 #[.slice (some ⟨b, off, none⟩) len cap] w fun e w' => PthRes w w' (segsRun f len 0 []) e ∧ Below w.heap.size w w' := by
  have HC := hide hcell
  have HF := hide hf
  clear hcell hf
  go_enter Try.func15, Try.ntmps15
  go_wp2_with fail
  refine (gob_any _).mono ?_
  rintro e w1 ⟨rfl, hk1, hb1⟩
  unfold chkV
  have HK1 := hide hk1
  have HB1 := hide hb1
  clear hk1 hb1
  go_wp2
  go_loopw [0, 5] (fun s v wq => ∃ (i : Nat) (acc : List (Bool × List Int)) (a' : Option Addr) (c' r x : Nat), s = .slice a' r c' ∧ r = len - i ∧ i ≤ len ∧ r ≤ c' ∧ x ≤ 64 ∧ Hid (x = sumP acc) ∧ Hid (acc.all okS = true) ∧ Hid (i < len → a' = some ⟨b, off + i, none⟩) ∧ Hid (OwnPath wq (w.heap.size + 9) v acc) ∧ Hid (Below w.heap.size w wq) ∧ Hid (Chk wq w.heap.size x) ∧ Hid (segsRun f len 0 [] = segsRun f len i acc) ∧ acc.length ≤ i) (fun s _ _ => sliceLen s)
  case atStart => exact ⟨0, [], _, cap, len, 0, rfl, rfl, Nat.zero_le _, hlc, by omega, rfl, rfl, fun _ => rfl, OwnPath.nil _ _, HB1, HK1, rfl, Nat.le_refl _⟩
  case round =>
    clear HK1 HB1
    obtain ⟨i, acc, a', c', r, x, rfl, hr, hi, hrc, hx, HX, HAL, HA, HO, HB, HCH, HE, hal⟩ := hrel
    by_cases hlt : i < len
    · have ha := HA.out hlt
      subst ha
      have hr0 : (0 : Int) < (r : Int) := by omega
      have hcw : Hid (∀ j, j < len → wr.cell? ⟨b, off + j, none⟩ = some (.int .u8 (f j : Int))) := fun j hj => by
        rw [HB.out.cell (p := ⟨b, off + j, none⟩) (World.block_lt_of_cell? w _ (HC.out j hj))]
        exact HC.out j hj
      have HRR := hide hr
      have hrl : r ≤ len := by omega
      clear hr HA
      cases hk : segOk f len i with
      | false =>
        have HN : Hid (segsRun f len 0 [] = none) := by show segsRun f len 0 [] = none; rw [HE.out, segsRun_no hlt hk]
        have HK := hide hk
        clear hk
        go_wp2_with fail
        rw [HRR.out]
        refine (pfirst_bad b off len i c' f wr hlt (by rw [← HRR.out]; exact hrc) (by omega) HF.out hcw.out HK.out).mono ?_
        rintro e w2 ⟨rfl, hb⟩
        have HB1 : Hid (Below w.heap.size w w2) := HB.out.trans (hb.mono HB.out.size)
        clear hb
        go_wp2
        go_ret2
        exact ⟨by rw [HN.out]; rfl, HB1.out.alloc HB1.out.size _⟩
      | true =>
        have HK := hide hk
        clear hk
        have HE1 : Hid (segsRun f len 0 [] = segsRun f len (i + 2 + 4 * f (i + 1)) (acc ++ [segAt f i])) := by show segsRun f len 0 [] = _; rw [HE.out, segsRun_go hlt HK.out]
        have HL2 : Hid (i + 2 + 4 * f (i + 1) ≤ len) := (segOk_at HK.out).2.2
        have hn256 := HF.out (i + 1) (by have := HL2.out; omega)
        have HP := hide (pfirst_at b off len i c' f wr (by rw [← HRR.out]; exact hrc) (by omega) HF.out hcw.out HK.out)
        rw [← HRR.out] at HP
        have HSN := hide (goodP_snoc acc (segAt f i) HAL.out)
        have HSL : Hid ((segAt f i).2.length = f (i + 1)) := numsAt_length _ _ _
        have HSS := hide (sumP_snoc acc (segAt f i))
        have HSA : Hid ((acc ++ [segAt f i]).all okS = (acc.all okS && okS (segAt f i))) := by show List.all _ _ = _; simp
        generalize hni : i + 2 + 4 * f (i + 1) = i2 at *
        have HNI : Hid (i < i2) := by show i < i2; omega
        generalize f (i + 1) = n at *
        generalize segAt f i = sg at *
        obtain ⟨b1, zs⟩ := sg
        clear hni HE HC
        simp only at HSL HSS HP
        generalize hr2 : len - i2 = r2 at *
        have HR2 := hide hr2
        clear hr2
        go_wp2_with fail
        refine HP.out.mono ?_
        rintro e w2 ⟨g, a2, c2, rfl, hc2, ha2, hog, hb⟩
        have HB2 : Hid (Below w.heap.size w w2) := HB.out.trans (hb.mono HB.out.size)
        have HO2 := hide (HO.out.later hb)
        have HCH2 := hide (HCH.out.later hb)
        have HOG : Hid (w2.ownsRow (w.heap.size + 9) 3 1 (.slice (some ⟨g, 0, none⟩) n n) n (icells zs)) := own_base hog (by have := HCH.out.size; omega)
        have HC2 := hide hc2
        have HA2 := hide ha2
        clear hb hog hc2 ha2 HP HO HB HCH hcw
        have HCK : Hid (∀ w3 : World, Below w2.heap.size w2 w3 → Calls Try.prog 40 #[segV b1 (some ⟨g, 0, none⟩) n n, .pointer (some ⟨w.heap.size + 6, 0, none⟩), .pointer (some ⟨w.heap.size + 7, 0, none⟩), .pointer (some ⟨w.heap.size + 8, 0, none⟩)] w3 fun e w' =>
          e = .returned (.bool (okS (b1, zs) && decide (x + n ≤ 64))) ∧ Keeps (fun b => b = w.heap.size + 5) w3 w' ∧ ((okS (b1, zs) && decide (x + n ≤ 64)) = true → Chk w' w.heap.size (x + n))) := fun w3 hb3 => by
          have hlz := HSL.out
          have h9 := own_ird (w := w3) (zs := zs) (by rw [hlz]; exact own_later HOG.out hb3)
          obtain ⟨a9, c9, e9, hr9⟩ := h9
          simp only [Value.slice.injEq] at e9
          obtain ⟨e9, _, _⟩ := e9
          rw [← e9] at hr9
          have := check_any b1 (some ⟨g, 0, none⟩) n zs w.heap.size x w3 (by omega) (by omega) (HCH2.out.later hb3) hr9
          rw [hlz] at this
          exact this
        have hz2 : g < w2.heap.size := by
          have := own_block HOG.out g rfl
          exact this.2
        go_wp2_with fail
        refine (HCK.out (w2.alloc (.cells #[.bool b1, .slice (some ⟨g, 0, none⟩) n n] 38)) ((Below.refl _ _).alloc (Nat.le_refl _) _)).mono ?_
        rintro e w3 ⟨rfl, hk3, hi3⟩
        have hs9 := HCH2.out.size
        have q0 : w3.cell? ⟨w2.heap.size, 0, none⟩ = some (.bool b1) := by rw [hk3.cell ⟨w2.heap.size, 0, none⟩ (by simp) (by show ¬ (w2.heap.size = _); omega)]; simp [go_sem]
        have q1 : w3.cell? ⟨w2.heap.size, 1, none⟩ = some (.slice (some ⟨g, 0, none⟩) n n) := by rw [hk3.cell ⟨w2.heap.size, 1, none⟩ (by simp) (by show ¬ (w2.heap.size = _); omega)]; simp [go_sem]
        have hz3 : w2.heap.size < w3.heap.size := by have := hk3.size; simp at this; omega
        have HB3 : Hid (Below w.heap.size w w3) := (HB2.out.alloc HB2.out.size _).trans (hk3.below w.heap.size (by simp; omega) (fun b h => by omega))
        have HO3 : Hid (OwnPath w3 (w.heap.size + 9) _ acc) := (HO2.out.later ((Below.refl _ _).alloc (Nat.le_refl _) _)).keeps hk3 (fun k h => by omega)
        have HOG3 : Hid (w3.ownsRow (w.heap.size + 9) 3 1 (.slice (some ⟨g, 0, none⟩) n n) n (icells zs)) := own_keeps (HOG.out.alloc _) hk3 (fun k h => by omega)
        have HI3 := hide hi3
        clear hk3 hi3 HCK HO2 HOG HCH2 HB2
        cases hr : (okS (b1, zs) && decide (x + n ≤ 64)) with
        | false =>
          have HN : Hid (segsRun f len 0 [] = none) := by
            show segsRun f len 0 [] = none
            rw [HE1.out]
            refine segsRun_bad ?_
            rw [HSN.out, ← HX.out, ← hr, ← HSL.out]
          clear hr
          go_wp2
          go_ret2
          exact ⟨by rw [HN.out]; rfl, HB3.out⟩
        | true =>
          have HCH4 := hide (HI3.out hr)
          obtain ⟨t1, t2⟩ := (Bool.and_eq_true _ _).mp hr
          have HOK := hide t1
          have hx2 : x + n ≤ 64 := of_decide_eq_true t2
          clear hr t1 t2 HI3
          obtain ⟨v4, w4, hr4, ho4, hb4⟩ := HO3.out.snoc (b := b1) (zs := zs) (u := .slice (some ⟨g, 0, none⟩) n n) (by rw [HSL.out]; exact HOG3.out) rfl (by omega) (by omega) w3.heap.size rfl
          have HR4 := hide hr4
          have HO4 := hide ho4
          have HB4 : Hid (Below w.heap.size w w4) := HB3.out.trans (hb4.mono (by omega))
          have HCH5 := hide (HCH4.out.under hb4)
          clear hr4 ho4 hb4 HO3 HOG3 HCH4 HB3
          go_wp2_with fail
          refine kept_appendS_intro _ _ _ (.slice (some ⟨w3.heap.size, 0, none⟩) 1 1) v4 (w' := w4) (by rfl) (by rfl) (by exact HR4.out) ?_
          go_wp2
          exact ⟨⟨i2, acc ++ [(b1, zs)], a2, c2, r2, x + n, rfl, HR2.out.symm, HL2.out, HC2.out, hx2, by show x + n = _; rw [HSS.out, HX.out, HSL.out], by show List.all _ _ = true; rw [HSA.out, HAL.out, HOK.out]; rfl, HA2, HO4, HB4, HCH5, HE1, by have := HNI.out; simp; omega⟩, by have := HNI.out; have := HRR.out; have := HR2.out; have := HL2.out; simp [sliceLen]; omega⟩
    · have HN : Hid (segsRun f len 0 [] = some acc) := by
        show segsRun f len 0 [] = some acc
        rw [HE.out, segsRun_end hlt]
        unfold fin goodP
        rw [HAL.out, ← HX.out, decide_eq_true hx]; rfl
      have hr0 : r = 0 := by omega
      subst hr0
      go_wp2
      go_ret2
      exact ⟨by rw [HN.out]; exact ⟨_, rfl, HO.out.base (by omega)⟩, HB.out⟩
end
set_option maxHeartbeats 400000 in
theorem pdecode_empty (a : Option Addr) (cap : Nat) (f : Nat → Nat) (w : World) :
    Calls Try.prog 15 #[.slice a 0 cap] w fun e w' => PthRes w w' (segsRun f 0 0 []) e ∧ Below w.heap.size w w' := by
  have HN : Hid (segsRun f 0 0 [] = some []) := segsRun_end (by omega)
  go_enter Try.func15, Try.ntmps15
  go_wp2_with fail
  refine (gob_any _).mono ?_
  rintro e w1 ⟨rfl, hk1, hb1⟩
  unfold chkV
  have HB1 := hide hb1
  clear hk1 hb1
  go_wp2
  go_loop [0, 5] (fun s v => s = .slice a 0 cap ∧ v = .slice none 0 0) (fun s _ => sliceLen s)
  case atStart => exact ⟨rfl, rfl⟩
  case round =>
    obtain ⟨rfl, rfl⟩ := hrel
    go_wp2
    go_ret2
    exact ⟨by rw [HN.out]; exact ⟨_, rfl, OwnPath.nil _ _⟩, HB1.out⟩
theorem pdecode_any (a : Option Addr) (len cap : Nat) (f : Nat → Nat) (w : World) (hl : len ≤ 10000) (hlc : len ≤ cap) (hf : ∀ j, j < len → f j < 256) (h : Rw w a len f) :
    Calls Try.prog 15 #[.slice a len cap] w fun e w' => PthRes w w' (segsRun f len 0 []) e ∧ Below w.heap.size w w' := by
  by_cases h0 : len = 0
  · subst h0; exact pdecode_empty a cap f w
  · obtain ⟨b, off, rfl, hc⟩ := h.2 (by omega)
    exact pdecode_some b off len cap f w hl hlc hf hc
end Go.Proofs.Ytnfokbpnjhhiiaa
