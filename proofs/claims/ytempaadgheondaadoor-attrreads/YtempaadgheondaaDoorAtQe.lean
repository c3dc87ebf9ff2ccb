/- The program's Decode. -/
import Derived.Test.YtempaadgheondaaDoorHDec
namespace Go.Proofs.YtempaadgheondaaDoor
open Go.RowKit
set_option maxRecDepth 100000

set_option maxHeartbeats 6400000 in
theorem decode_any (a : Option Addr) (c : Nat) (bs : List Nat) (w : World) (hS : Said w) (hl : bs.length ≤ 10000) (hc : bs.length ≤ c) (h : BRd w a bs) :
    Calls Tryd.prog 16 #[.slice a bs.length c] w fun e w' => DecA w w' (readA bs) e ∧ Below w.heap.size w w' := by
  have hmf : ∀ (fn : Fn) (first cap : Array Value) (w : World), (Instr.makeFunc fn first cap).run Tryd.prog w = .ok (.func fn first cap) w := fun _ _ _ _ => rfl
  have HS := hide hS
  have H := hide h
  clear h hS
  generalize hbl : bs.length = bl at *
  go_enter_defers Tryd.func16, Tryd.ntmps16
  go_wp2_with (with_reducible refine wpl_alloc 61 _ (run_alloc_seen _) ?_)
  simp only [Act.put, List.setIfInBounds_toArray, List.set_cons_zero, List.set_cons_succ, World.size_alloc]
  have HD0 := hide (dec_start a bs w H.out)
  go_loopw [0] (fun v wq => ∃ rem a' c' x b seen, v = .slice a' rem.length c' ∧ rem.length ≤ c' ∧ Hid (DecSt bs w wq rem a' x b seen)) (fun v _ => sliceLen v)
  case atStart => exact ⟨bs, a, c, _, _, _, by rw [hbl], by omega, HD0⟩
  case round =>
    clear HD0
    obtain ⟨rem, a', c', x, b, seen, rfl, hrc, HD⟩ := hrel
    have hcnt := HD.out.cnt
    have hsz := HD.out.sz
    rw [hbl] at hcnt
    by_cases hr0 : 0 < rem.length
    · have HB1 := hide ((Below.refl wr.heap.size wr).alloc (Nat.le_refl _) (.cells #[.int .i64 0, .int .i64 0, .slice none 0 0, .slice none 0 0] 63))
      have hne0 : rem ≠ [] := List.length_pos_iff.1 hr0
      by_cases hfit : headL (rem.getD 0 0) ≤ rem.length ∧ headL (rem.getD 0 0) + sizeL rem ≤ rem.length
      · have K := hide (first_in a' c' rem (wr.alloc (.cells #[.int .i64 0, .int .i64 0, .slice none 0 0, .slice none 0 0] 63)) hr0 (by omega) hrc (HD.out.rd.below HB1.out) hfit.2)
        obtain ⟨hb0, hb1⟩ : rem.getD 0 0 < 256 ∧ rem.getD 1 0 < 256 := ⟨brd_getD HD.out.rd 0, brd_getD HD.out.rd 1⟩
        have HGO : Hid (rem.getD 1 0 ∉ seen → readA bs = thenA (applyA b (rem.getD 0 0) (rem.getD 1 0) ((rem.drop (headL (rem.getD 0 0))).take (sizeL rem)) (rem.take (headL (rem.getD 0 0) + sizeL rem))) fun a' => runA (rem.drop (headL (rem.getD 0 0) + sizeL rem)) a' (rem.getD 1 0 :: seen)) := fun hns => by
          rw [HD.out.run, runA_go hne0 (by rw [fitsL_eq]; exact decide_eq_true ⟨hfit.1, hfit.2, hns⟩)]
        have HNO : Hid (rem.getD 1 0 ∈ seen → readA bs = .inl (3, 1, [])) := fun hns => by
          rw [HD.out.run, runA_no hne0 (by rw [fitsL_eq]; exact decide_eq_false (fun h9 => h9.2.2 hns))]
        have hh3 := headL_pos (rem.getD 0 0)
        have hld : ((rem.drop (headL (rem.getD 0 0))).take (sizeL rem)).length = sizeL rem := by rw [List.length_take, List.length_drop]; omega
        have hla : (rem.take (headL (rem.getD 0 0) + sizeL rem)).length = headL (rem.getD 0 0) + sizeL rem := by rw [List.length_take]; omega
        have hlr : (rem.drop (headL (rem.getD 0 0) + sizeL rem)).length = rem.length - (headL (rem.getD 0 0) + sizeL rem) := by rw [List.length_drop]
        have hn1 : sizeL rem ≤ 10000 := by omega
        have hn2 : headL (rem.getD 0 0) + sizeL rem ≤ rem.length := hfit.2
        have hn3 : 3 ≤ headL (rem.getD 0 0) + sizeL rem := by omega
        unfold FirstIn at K
        generalize (rem.drop (headL (rem.getD 0 0))).take (sizeL rem) = d at *
        generalize rem.take (headL (rem.getD 0 0) + sizeL rem) = all at *
        generalize rem.drop (headL (rem.getD 0 0) + sizeL rem) = rest at *
        generalize headL (rem.getD 0 0) + sizeL rem = n2 at *
        generalize sizeL rem = n1 at *
        generalize rem.getD 0 0 = fl at *
        generalize rem.getD 1 0 = ty at *
        have HHD := hide hfit
        clear hfit hh3
        have HRC := hide hrc
        generalize hrl : rem.length = rl at *
        have hr1 : (0 : Int) < (rl : Int) := by omega
        go_wp2_with fail
        refine K.out.mono ?_
        rintro e w2 ⟨a1, k1, a2, k2, a3, k3, rfl, r1, hk1, r2, r3, hk3, l1, l2, l3, hb2⟩
        have HB2 : Hid (Below wr.heap.size wr w2) := HB1.out.trans (hb2.mono (by simp))
        have hPs : wr.heap.size < w2.heap.size := by have := hb2.size; simp at this; omega
        have z0 : w2.cell? ⟨wr.heap.size, 0, none⟩ = some (.int .i64 0) := by rw [hb2.cell (p := ⟨wr.heap.size, 0, none⟩) (by simp)]; simp [go_sem]
        have z1 : w2.cell? ⟨wr.heap.size, 1, none⟩ = some (.int .i64 0) := by rw [hb2.cell (p := ⟨wr.heap.size, 1, none⟩) (by simp)]; simp [go_sem]
        have z2 : w2.cell? ⟨wr.heap.size, 2, none⟩ = some (.slice none 0 0) := by rw [hb2.cell (p := ⟨wr.heap.size, 2, none⟩) (by simp)]; simp [go_sem]
        have z3 : w2.cell? ⟨wr.heap.size, 3, none⟩ = some (.slice none 0 0) := by rw [hb2.cell (p := ⟨wr.heap.size, 3, none⟩) (by simp)]; simp [go_sem]
        have g0 : w2.frozen? ⟨wr.heap.size, 0, none⟩ = false := by rw [hb2.frozen (p := ⟨wr.heap.size, 0, none⟩) (by simp)]; simp [go_sem]
        have g1 : w2.frozen? ⟨wr.heap.size, 1, none⟩ = false := by rw [hb2.frozen (p := ⟨wr.heap.size, 1, none⟩) (by simp)]; simp [go_sem]
        have g2 : w2.frozen? ⟨wr.heap.size, 2, none⟩ = false := by rw [hb2.frozen (p := ⟨wr.heap.size, 2, none⟩) (by simp)]; simp [go_sem]
        have g3 : w2.frozen? ⟨wr.heap.size, 3, none⟩ = false := by rw [hb2.frozen (p := ⟨wr.heap.size, 3, none⟩) (by simp)]; simp [go_sem]
        have HD2 := hide (HD.out.later HB2.out)
        have cy := (HD2.out.stood ty hb1).1
        have fy := (HD2.out.stood ty hb1).2
        have hPY : wr.heap.size ≠ w.heap.size + 1 + 1 := by omega
        have hYP : w.heap.size + 1 + 1 ≠ wr.heap.size := by omega
        have HB3 : Hid (Below wr.heap.size wr ((((w2.setCell ⟨wr.heap.size, 0, none⟩ (.int .i64 (fl : Int))).setCell ⟨wr.heap.size, 1, none⟩ (.int .i64 (ty : Int))).setCell ⟨wr.heap.size, 2, none⟩ (.slice a1 n1 k1)).setCell ⟨wr.heap.size, 3, none⟩ (.slice a2 n2 k2))) := (((HB2.out.setCell (Nat.le_refl _) _).setCell (Nat.le_refl _) _).setCell (Nat.le_refl _) _).setCell (Nat.le_refl _) _
        have hlowa := HD.out.low
        rw [hrl] at hlowa
        have L1 : Hid (∀ y, a1 = some y → 0 < d.length → y.block < w.heap.size) := fun y hy hp => by
          obtain ⟨z, hz, e9⟩ := l1 (by rw [hld] at hp; exact hp) y hy
          rw [e9]; exact hlowa z hz hr0
        have L2 : Hid (∀ y, a2 = some y → 0 < all.length → y.block < w.heap.size) := fun y hy _ => by
          obtain ⟨z, hz, e9⟩ := l2 y hy
          rw [e9]; exact hlowa z hz hr0
        have L3 : Hid (∀ y, a3 = some y → 0 < rest.length → y.block < w.heap.size) := fun y hy hp => by
          obtain ⟨z, hz, e9⟩ := l3 (by rw [hlr] at hp; omega) y hy
          rw [e9]; exact hlowa z hz hr0
        have hX1 : w.heap.size < wr.heap.size := by omega
        have S4 : Hid (∀ k, k < w.heap.size → (((((w2.setCell ⟨wr.heap.size, 0, none⟩ (.int .i64 (fl : Int))).setCell ⟨wr.heap.size, 1, none⟩ (.int .i64 (ty : Int))).setCell ⟨wr.heap.size, 2, none⟩ (.slice a1 n1 k1)).setCell ⟨wr.heap.size, 3, none⟩ (.slice a2 n2 k2)).setCell ⟨w.heap.size + 1 + 1, ty, none⟩ (.bool true)).heap[k]? = (wr.alloc (.cells #[.int .i64 0, .int .i64 0, .slice none 0 0, .slice none 0 0] 63)).heap[k]?) := fun k hk => by
          rw [heap_setCell _ _ _ _ _ (by omega), heap_setCell _ _ _ _ _ (by omega), heap_setCell _ _ _ _ _ (by omega), heap_setCell _ _ _ _ _ (by omega), heap_setCell _ _ _ _ _ (by omega)]
          exact hb2.block k (by simp; omega)
        have R1 := hide (brd_low r1 L1.out S4.out)
        have R2 := hide (brd_low r2 L2.out S4.out)
        have R3 := hide (brd_low r3 L3.out S4.out)
        clear r1 r2 r3 l1 l2 l3 hlowa
        have i0 : (0 : Int) ≤ (ty : Int) := Int.natCast_nonneg _
        have i1 : (ty : Int) < 256 := by omega
        clear hb2 HB1
        by_cases hseen : ty ∈ seen
        · rw [decide_eq_true hseen] at cy
          have KT : Hid (∀ w1, Below wr.heap.size wr w1 → Calls Tryd.prog 37 #[.int .i64 1, .slice none 0 0] w1 fun e w' => Throws wr w' 1 [] e) := fun w1 hb => throw_nil 1 wr w1 hb
          unfold Throws at KT
          unfold thrown at KT
          go_wp2_with fail
          refine (KT.out _ HB3.out).mono ?_
          rintro e w5 ⟨a9, c9, rfl, ho, hb5⟩
          have HD5 := hide (HD.out.later hb5)
          go_wp2
          exact dec_throw rfl rfl rfl (own_base ho hsz) HD5.out.box HD5.out.note HD5.out.bel (HNO.out hseen)
        · rw [decide_eq_false hseen] at cy
          have HD3 := hide (HD.out.later HB3.out)
          have HX4 : Hid (Box (((((w2.setCell ⟨wr.heap.size, 0, none⟩ (.int .i64 (fl : Int))).setCell ⟨wr.heap.size, 1, none⟩ (.int .i64 (ty : Int))).setCell ⟨wr.heap.size, 2, none⟩ (.slice a1 n1 k1)).setCell ⟨wr.heap.size, 3, none⟩ (.slice a2 n2 k2)).setCell ⟨w.heap.size + 1 + 1, ty, none⟩ (.bool true)) w.heap.size (w.heap.size + 3) x) := box_above HD3.out.box ⟨by omega, by omega⟩ _ _
          have HN4 : Hid (NBox (((((w2.setCell ⟨wr.heap.size, 0, none⟩ (.int .i64 (fl : Int))).setCell ⟨wr.heap.size, 1, none⟩ (.int .i64 (ty : Int))).setCell ⟨wr.heap.size, 2, none⟩ (.slice a1 n1 k1)).setCell ⟨wr.heap.size, 3, none⟩ (.slice a2 n2 k2)).setCell ⟨w.heap.size + 1 + 1, ty, none⟩ (.bool true)) (w.heap.size + 1)) := HD3.out.note.keeps (F := fun k => k = w.heap.size + 1 + 1) ((Keeps.refl _ _).setCell _ _ _ (.inl rfl)) (show ¬ (w.heap.size + 1 = w.heap.size + 1 + 1) by omega)
          have HT4 : Hid (Stood (((((w2.setCell ⟨wr.heap.size, 0, none⟩ (.int .i64 (fl : Int))).setCell ⟨wr.heap.size, 1, none⟩ (.int .i64 (ty : Int))).setCell ⟨wr.heap.size, 2, none⟩ (.slice a1 n1 k1)).setCell ⟨wr.heap.size, 3, none⟩ (.slice a2 n2 k2)).setCell ⟨w.heap.size + 1 + 1, ty, none⟩ (.bool true)) (w.heap.size + 1 + 1) (ty :: seen)) := HD3.out.stood.put ty hb1
          have HB4 : Hid (Below w.heap.size w (((((w2.setCell ⟨wr.heap.size, 0, none⟩ (.int .i64 (fl : Int))).setCell ⟨wr.heap.size, 1, none⟩ (.int .i64 (ty : Int))).setCell ⟨wr.heap.size, 2, none⟩ (.slice a1 n1 k1)).setCell ⟨wr.heap.size, 3, none⟩ (.slice a2 n2 k2)).setCell ⟨w.heap.size + 1 + 1, ty, none⟩ (.bool true))) := HD3.out.bel.setCell (show w.heap.size ≤ w.heap.size + 1 + 1 by omega) _
          have hs4 : w.heap.size + 3 ≤ (((((w2.setCell ⟨wr.heap.size, 0, none⟩ (.int .i64 (fl : Int))).setCell ⟨wr.heap.size, 1, none⟩ (.int .i64 (ty : Int))).setCell ⟨wr.heap.size, 2, none⟩ (.slice a1 n1 k1)).setCell ⟨wr.heap.size, 3, none⟩ (.slice a2 n2 k2)).setCell ⟨w.heap.size + 1 + 1, ty, none⟩ (.bool true)).heap.size := by simp; omega
          have KI := hide (into_any fl ty a1 k1 a2 k2 d all w.heap.size (w.heap.size + 3) x (((((w2.setCell ⟨wr.heap.size, 0, none⟩ (.int .i64 (fl : Int))).setCell ⟨wr.heap.size, 1, none⟩ (.int .i64 (ty : Int))).setCell ⟨wr.heap.size, 2, none⟩ (.slice a1 n1 k1)).setCell ⟨wr.heap.size, 3, none⟩ (.slice a2 n2 k2)).setCell ⟨w.heap.size + 1 + 1, ty, none⟩ (.bool true)) (HS.out.below HB4.out) hb0 (by omega) (by rw [hld]; exact hk1) R1.out (by omega) R2.out L2.out HX4.out hs4 (by have := HD.out.rel.cnt; omega))
          rw [hld, hla] at KI
          unfold partV at KI
          obtain ⟨hst1, hst2⟩ := rel_step HD.out.rel fl ty d all hseen (by omega)
          have HGO2 := hide (HGO.out hseen)
          cases happ : applyQ x fl ty d all with
          | inl nn =>
            rw [happ] at KI
            have HA := hide (hst1 nn happ)
            have h3n := applyQ_three happ
            obtain ⟨nc, ns, nd⟩ := nn
            simp only at h3n
            subst h3n
            have HRR : Hid (readA bs = .inl (3, ns, nd)) := by show readA bs = _; rw [HGO2.out, HA.out, thenA_no]
            unfold IntoRes ThrowsB thrown at KI
            simp only at KI
            generalize hnd : nd.length = ndl at *
            clear hst1 hst2
            go_wp2_with fail
            refine KI.out.mono ?_
            rintro e w5 ⟨a9, c9, rfl, ho, hk5, x5, hx5⟩
            have HN5 := hide (HN4.out.keeps hk5 (by unfold NotBox; omega))
            have HB5 := hide (below_box HB4.out hk5 hs4)
            go_wp2
            exact dec_throw rfl rfl hnd (own_base ho hs4) hx5 HN5.out HB5.out HRR.out
          | inr x5 =>
            rw [happ] at KI
            obtain ⟨b5, hA, hrel5⟩ := hst2 x5 happ
            have HRR : Hid (readA bs = runA rest b5 (ty :: seen)) := by show readA bs = _; rw [HGO2.out, hA, thenA_go]
            unfold IntoRes at KI
            simp only at KI
            have HREL := hide hrel5
            clear hst1 hst2 hrel5 hA
            go_wp2_with fail
            refine KI.out.mono ?_
            rintro e w5 ⟨rfl, hx5, hk5⟩
            have HD5 : Hid (DecSt bs w w5 rest a3 x5 b5 (ty :: seen)) := ⟨brd_low R3.out L3.out (fun k hk => hk5.block k (by have := HB4.out.size; omega) (by unfold NotBox; omega)), L3.out, by rw [List.length_cons, hlr, hbl]; omega, hx5, HN4.out.keeps hk5 (by unfold NotBox; omega), HT4.out.keeps hk5 (by unfold NotBox; omega), HREL.out, HRR.out, below_box HB4.out hk5 hs4, Nat.le_trans hs4 hk5.size⟩
            clear hx5 hk5
            go_wp2
            refine ⟨⟨rest, a3, k3, x5, b5, ty :: seen, by rw [hlr], by rw [hlr]; exact hk3, HD5⟩, ?_⟩
            simp [sliceLen]
            omega
      · have K := hide (afirst_no a' c' rem (wr.alloc (.cells #[.int .i64 0, .int .i64 0, .slice none 0 0, .slice none 0 0] 63)) hr0 (by omega) hrc (HD.out.rd.below HB1.out) hfit)
        have HNO : Hid (readA bs = .inl (3, 1, [])) := by
          show readA bs = _
          rw [HD.out.run, runA_no hne0 (by rw [fitsL_eq]; exact decide_eq_false (fun h9 => hfit ⟨h9.1, h9.2.1⟩))]
        unfold Throws at K
        unfold thrown at K
        generalize hrl : rem.length = rl at *
        have hr1 : (0 : Int) < (rl : Int) := by omega
        go_wp2_with fail
        refine K.out.mono ?_
        rintro e w2 ⟨a9, c9, rfl, ho, hb2⟩
        have HD5 := hide (HD.out.later (HB1.out.trans (hb2.mono (by simp))))
        go_wp2
        exact dec_throw rfl rfl rfl (own_base ho (by simp; omega)) HD5.out.box HD5.out.note HD5.out.bel HNO.out
    · have hrem : rem = [] := List.length_eq_zero_iff.1 (by omega)
      subst hrem
      have HFIN : Hid (readA bs = finA b seen) := by show readA bs = _; rw [HD.out.run, runA_end]
      go_wp2
      go_loop [6] (fun i => ∃ k : Nat, 1 ≤ k ∧ k ≤ 4 ∧ i = .int .i64 k ∧ Hid (∀ j, 1 ≤ j → j < k → j ∈ seen)) (fun i => 4 - (intOf i).toNat)
      case atStart => exact ⟨1, by omega, by omega, rfl, fun j h1 h2 => by omega⟩
      case round =>
        obtain ⟨k, hk1, hk4, rfl, HK⟩ := hrel
        by_cases hlt : k ≤ 3
        · have cy := (HD.out.stood k (by omega)).1
          have j0 : (0 : Int) ≤ (k : Int) := Int.natCast_nonneg _
          have j1 : (k : Int) < 256 := by omega
          have j3 : (k : Int) ≤ 3 := by omega
          by_cases hin : k ∈ seen
          · rw [decide_eq_true hin] at cy
            go_wp2
            exact ⟨⟨k + 1, by omega, by omega, by go_num, fun j h1 h2 => by
              by_cases e : j = k
              · rw [e]; exact hin
              · exact HK.out j h1 (by omega)⟩, by simp [intOf]; omega⟩
          · rw [decide_eq_false hin] at cy
            have HRR : Hid (readA bs = .inl (3, 3, [k])) := by
              show readA bs = _
              rw [HFIN.out]
              unfold finA
              rcases (by omega : k = 1 ∨ k = 2 ∨ k = 3) with rfl | rfl | rfl
              · rw [if_pos hin]
              · rw [if_neg (fun h9 => h9 (HK.out 1 (by omega) (by omega))), if_pos hin]
              · rw [if_neg (fun h9 => h9 (HK.out 1 (by omega) (by omega))), if_neg (fun h9 => h9 (HK.out 2 (by omega) (by omega))), if_pos hin]
            have wk : IntKind.u8.wrap (k : Int) = (k : Int) := by rw [IntKind.wrap_u8]; omega
            have HBA : Hid (Below wr.heap.size wr (wr.alloc (.cells #[.int .u8 (k : Int)] 5))) := (Below.refl _ _).alloc (Nat.le_refl _) _
            have HBR : Hid (BRd (wr.alloc (.cells #[.int .u8 (k : Int)] 5)) (some ⟨wr.heap.size, 0, none⟩) [k]) := ⟨⟨by unfold maxLen; simp, fun _ => ⟨wr.heap.size, 0, rfl, fun i hi => by
              have : i = 0 := by simpa using hi
              subst this
              simp [go_sem]⟩⟩, fun y hy => by simp at hy; omega⟩
            have KT : Hid (Calls Tryd.prog 37 #[.int .i64 3, .slice (some ⟨wr.heap.size, 0, none⟩) 1 1] (wr.alloc (.cells #[.int .u8 (k : Int)] 5)) fun e w' => Throws wr w' 3 [k] e) := (throw_any 3 (some ⟨wr.heap.size, 0, none⟩) 1 [k] _ (by simp) HBR.out).mono fun _ _ h9 => h9.from HBA.out
            unfold Throws at KT
            unfold thrown at KT
            simp only [List.length_cons, List.length_nil, Nat.zero_add] at KT
            go_wp2_with fail
            refine KT.out.mono ?_
            rintro e w5 ⟨a9, c9, rfl, ho, hb5⟩
            have HD5 := hide (HD.out.later hb5)
            go_wp2
            exact dec_throw rfl rfl rfl (own_base ho hsz) HD5.out.box HD5.out.note HD5.out.bel HRR.out
        · have hk : k = 4 := by omega
          subst hk
          have HRR : Hid (readA bs = .inr b) := by
            show readA bs = _
            rw [HFIN.out]
            unfold finA
            rw [if_neg (fun h9 => h9 (HK.out 1 (by omega) (by omega))), if_neg (fun h9 => h9 (HK.out 2 (by omega) (by omega))), if_neg (fun h9 => h9 (HK.out 3 (by omega) (by omega)))]
          obtain ⟨p, cc, hv6, _⟩ := HD.out.box.c6
          have KS := hide (box_sort HD.out.box HD.out.rel (by have := HD.out.rel.cnt; simp at hcnt; omega) hv6)
          generalize hrl : x.raws.length = rl at *
          clear hlt
          go_wp2_with fail
          refine KS.out.mono ?_
          rintro e w6 ⟨rfl, hx6, hk6⟩
          have q0 := hx6.c0
          have q2 := hx6.c2
          have q3 := hx6.c3
          have q4 := hx6.c4
          obtain ⟨p1, k1, q1, o1⟩ := hx6.c1
          obtain ⟨p5, k5, q5, o5⟩ := hx6.c5
          obtain ⟨p6, k6, q6, o6⟩ := hx6.c6
          have f0 := hx6.fz 0
          have f1 := hx6.fz 1
          have f2 := hx6.fz 2
          have f3 := hx6.fz 3
          have f4 := hx6.fz 4
          have f5 := hx6.fz 5
          have f6 := hx6.fz 6
          have HN6 := HD.out.note.keeps hk6 (by unfold NotBox; omega)
          have m0 := HN6.c0
          have m1 := HN6.c1
          have m2 := HN6.c2
          have e0 := HN6.fz 0
          have e1 := HN6.fz 1
          have e2 := HN6.fz 2
          have HB6 := hide (below_box HD.out.bel hk6 hsz)
          have HX6 := hide hx6
          have HZ : Hid (∀ w7, Keeps (fun k => k = w.heap.size ∨ k = w.heap.size + 1) w6 w7 → DecA w w7 (readA bs) (.returned (.tuple #[.agg #[.int .i64 b.origin, .slice p1 b.path.length k1, .int .u32 (b.next : Int), .int .i64 b.med, .int .i64 b.pref, .slice p5 b.comms.length k5, .slice p6 b.raws.length k6], .agg #[.int .i64 0, .int .i64 0, .slice none 0 0]])) ∧ Below w.heap.size w w7) := fun w7 hk7 => by
            refine ⟨?_, ?_⟩
            · rw [HRR.out]
              refine ⟨p1, k1, p5, k5, p6, k6, rfl, (o1.keeps hk7 (fun k h9 => by rcases h9 with h9 | h9 <;> omega)).base (by omega), own_base (own_keeps o5 hk7 (fun k h9 => by rcases h9 with h9 | h9 <;> omega)) (by omega), ?_⟩
              obtain ⟨cs, ho, hc⟩ := o6
              refine ⟨cs, own_base (own_keeps ho hk7 (fun k h9 => by rcases h9 with h9 | h9 <;> omega)) (by omega), fun i r hi => ?_⟩
              obtain ⟨g1, g2, u, g3, g4⟩ := hc i r hi
              exact ⟨g1, g2, u, g3, own_base (own_keeps g4 hk7 (fun k h9 => by rcases h9 with h9 | h9 <;> omega)) (by omega)⟩
            · exact ⟨hk7.os.trans HB6.out.os, hk7.tape.trans HB6.out.tape, hk7.output.trans HB6.out.output, Nat.le_trans HB6.out.size hk7.size, fun k hk9 => by rw [hk7.block k (Nat.lt_of_lt_of_le hk9 HB6.out.size) (fun h9 => by rcases h9 with h9 | h9 <;> omega)]; exact HB6.out.block k hk9⟩
          clear o1 o5 o6 hx6 hk6 KS
          generalize b.path.length = n1 at *
          generalize b.comms.length = n5 at *
          generalize b.raws.length = n6 at *
          have hne1 : w.heap.size ≠ w.heap.size + 1 := by omega
          have hne2 : w.heap.size + 1 ≠ w.heap.size := by omega
          go_wp2_with fail
          go_region
          have hk7 : Keeps (fun k => k = w.heap.size ∨ k = w.heap.size + 1) w6 ((((((((((w6.setCell ⟨w.heap.size, 0, none⟩ (.int .i64 b.origin)).setCell ⟨w.heap.size, 1, none⟩ (.slice p1 n1 k1)).setCell ⟨w.heap.size, 2, none⟩ (.int .u32 (b.next : Int))).setCell ⟨w.heap.size, 3, none⟩ (.int .i64 b.med)).setCell ⟨w.heap.size, 4, none⟩ (.int .i64 b.pref)).setCell ⟨w.heap.size, 5, none⟩ (.slice p5 n5 k5)).setCell ⟨w.heap.size, 6, none⟩ (.slice p6 n6 k6)).setCell ⟨w.heap.size + 1, 0, none⟩ (.int .i64 0)).setCell ⟨w.heap.size + 1, 1, none⟩ (.int .i64 0)).setCell ⟨w.heap.size + 1, 2, none⟩ (.slice none 0 0)).drew :=
            (((((((((((Keeps.refl _ w6).setCell _ 0 _ (.inl (.inl rfl))).setCell _ 1 _ (.inl (.inl rfl))).setCell _ 2 _ (.inl (.inl rfl))).setCell _ 3 _ (.inl (.inl rfl))).setCell _ 4 _ (.inl (.inl rfl))).setCell _ 5 _ (.inl (.inl rfl))).setCell _ 6 _ (.inl (.inl rfl))).setCell _ 0 _ (.inl (.inr rfl))).setCell _ 1 _ (.inl (.inr rfl))).setCell _ 2 _ (.inl (.inr rfl))).drew
          obtain ⟨hz7, hb7⟩ := HZ.out _ hk7
          all_goals go_wp2
          all_goals exact dec_return rfl rfl (by simp [go_sem, q0]) (by simp [go_sem, q1]) (by simp [go_sem, q2]) (by simp [go_sem, q3]) (by simp [go_sem, q4]) (by simp [go_sem, q5]) (by simp [go_sem, q6]) (by simp [go_sem, m0]) (by simp [go_sem, m1]) (by simp [go_sem, m2]) hz7 hb7
end Go.Proofs.YtempaadgheondaaDoor
