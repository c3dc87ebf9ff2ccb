/- The program's Prepend. -/
import Derived.Test.YtnfokbpnjhhiiaaPthQk
import Derived.Test.YtnfokbpnjhhiiaaSmB
import Derived.Test.YtnfokbpnjhhiiaaPthQg
import Derived.Deep.RegionWith
import Derived.Deep.DrawnRows
namespace Go.Proofs.Ytnfokbpnjhhiiaa
open Go.RowKit
set_option maxRecDepth 100000

theorem meets_two (sb : Bool) (sa : Option Addr) (sn sc R x y : Nat) (w : World) (h0 : w.cell? ⟨R, 0, none⟩ = some (.func (.func 31) #[] #[])) (h1 : w.cell? ⟨R, 1, none⟩ = some (.func (.func 45) #[] #[.pointer (some ⟨x, 0, none⟩), .pointer (some ⟨y, 0, none⟩)]))
    (hx : w.cell? ⟨x, 0, none⟩ = some (.int .i64 0)) (hy : w.cell? ⟨y, 0, none⟩ = some (.int .i64 254)) :
    Calls Try.prog 34 #[segV sb sa sn sc, .slice (some ⟨R, 0, none⟩) 2 2] w fun e w' => e = .returned (.bool (!sb && decide (sn ≤ 254))) ∧ Below w.heap.size w w' := by
  have hbx := World.block_lt_of_cell? w _ hx
  have hby := World.block_lt_of_cell? w _ hy
  refine (meets_inv R 0 2 2 sb sa sn sc (fun i => if i = 0 then 31 else 45) (fun i => if i = 0 then #[] else #[.pointer (some ⟨x, 0, none⟩), .pointer (some ⟨y, 0, none⟩)]) (fun i => if i = 0 then !sb else decide ((0 : Int) ≤ (sn : Int) ∧ (sn : Int) ≤ 254))
    (fun _ w' => Below w.heap.size w w') (fun _ => False) w (by omega) (fun _ h => h.elim) (fun h => h) (fun i hi => ?_) (fun i hi => ?_) (fun k u1 u2 hu hb => hu.trans (hb.mono hu.size)) (Below.refl _ _) (fun i hi u1 _ hu => ?_)).mono ?_
  · match i, hi with
    | 0, _ => exact h0
    | 1, _ => exact h1
  · match i, hi with
    | 0, _ => exact Try.call31
    | 1, _ => exact Try.call45
  · match i, hi with
    | 0, _ =>
      refine (isSeq_any sb sa sn sc u1).mono ?_
      rintro e w2 ⟨rfl, hb⟩
      exact ⟨rfl, Keeps.of_below hb _, hu.trans (hb.mono hu.size)⟩
    | 1, _ =>
      refine (fromTo1_any sb sa sn sc 0 254 x y u1 (by rw [hu.cell (p := ⟨x, 0, none⟩) hbx]; exact hx) (by rw [hu.cell (p := ⟨y, 0, none⟩) hby]; exact hy)).mono ?_
      rintro e w2 ⟨rfl, hb⟩
      exact ⟨rfl, Keeps.of_below hb _, hu.trans (hb.mono hu.size)⟩
  · rintro e w2 ⟨rfl, hk, _⟩
    refine ⟨ret_bool ?_, hk.below w.heap.size (Nat.le_refl _) (fun _ h => h.elim)⟩
    simp only [allUp, Bool.true_and]
    congr 1
    simp only [show ¬ (1 = 0) from by omega, if_false]
    rw [Bool.eq_iff_iff]
    simp only [decide_eq_true_eq]
    omega
/-- Prepend's world when it asks. -/
def prepW (z : Int) (w : World) : World := ((((w.alloc (.cells #[.int .i64 z] 3)).alloc (.cells #[.int .i64 0] 3)).alloc (.cells #[.int .i64 254] 3)).alloc (.cells #[.func (.func 31) #[] #[], .func (.func 45) #[] #[.pointer (some ⟨w.heap.size + 1, 0, none⟩), .pointer (some ⟨w.heap.size + 1 + 1, 0, none⟩)]] 43)).drew
theorem prep_meets (sb : Bool) (a0 : Option Addr) (n0 c0 : Nat) (z : Int) (w : World) : Calls Try.prog 34 #[.agg #[.bool sb, .slice a0 n0 c0], .slice (some ⟨w.heap.size + 1 + 1 + 1, 0, none⟩) 2 2] (prepW z w) fun e w' => e = .returned (.bool (!sb && decide (n0 ≤ 254))) ∧ Below w.heap.size w w' ∧ w'.ownsRow w.heap.size 3 1 (.slice (some ⟨w.heap.size, 0, none⟩) 1 1) 1 (icells [z]) := by
  have hb : Below w.heap.size w (prepW z w) := (((((Below.refl _ _).alloc (Nat.le_refl _) _).alloc (by simp only [World.size_alloc]; omega) _).alloc (by simp only [World.size_alloc]; omega) _).alloc (by simp only [World.size_alloc]; omega) _).drew
  have ho : (prepW z w).ownsRow w.heap.size 3 1 (.slice (some ⟨w.heap.size, 0, none⟩) 1 1) 1 (icells [z]) := ((((own_made w w.heap.size 3 1 #[.int .i64 z] 1 (Nat.le_refl _) rfl (by omega)).alloc _).alloc _).alloc _).drew
  have hs : (prepW z w).heap.size = w.heap.size + 4 := by unfold prepW; simp
  refine (meets_two sb a0 n0 c0 (w.heap.size + 1 + 1 + 1) (w.heap.size + 1) (w.heap.size + 1 + 1) (prepW z w) ?_ ?_ ?_ ?_).mono ?_
  · unfold prepW
    rw [World.cell?_drew, cell_new _ _ _ _ _ (by simp)]; rfl
  · unfold prepW
    rw [World.cell?_drew, cell_new _ _ _ _ _ (by simp)]; rfl
  · unfold prepW
    rw [World.cell?_drew, cell_old _ _ _ _ (by simp only [World.size_alloc]; omega), cell_old _ _ _ _ (by simp only [World.size_alloc]; omega), cell_new _ _ _ _ _ (by simp)]; rfl
  · unfold prepW
    rw [World.cell?_drew, cell_old _ _ _ _ (by simp only [World.size_alloc]; omega), cell_new _ _ _ _ _ (by simp)]; rfl
  · rintro e w' ⟨rfl, hb'⟩
    exact ⟨rfl, hb.trans (hb'.mono hb.size), own_later ho hb'⟩
section
attribute [local go_sem ↓] Go.wp_at_zero Go.wp_at_succ kept_appendI kept_appendS
attribute [local go_sem] run_store_func
set_option maxHeartbeats 3200000 in
theorem prepend_none (a : Option Addr) (c : Nat) (z : Int) (w : World) :
    Calls Try.prog 24 #[.slice a 0 c, .int .i64 z] w fun e w' => ∃ v, e = .returned v ∧ OwnPath w' w.heap.size v (prepP z []) ∧ Below w.heap.size w w' := by
  have h1 := own_made w w.heap.size 3 1 #[.int .i64 z] 1 (Nat.le_refl _) rfl (by omega)
  have hb1 : Below w.heap.size w (w.alloc (.cells #[.int .i64 z] 3)) := (Below.refl _ _).alloc (Nat.le_refl _) _
  have HOP := hide ((own_path_one (w := w.alloc (.cells #[.int .i64 z] 3)) (zs := [z]) false h1 (by simp)).later (Below.refl _ _).drew)
  have HB1 := hide (hb1.alloc (by simp) (.cells #[.bool false, .slice (some ⟨w.heap.size, 0, none⟩) 1 1] 38)).drew
  clear h1 hb1
  go_enter Try.func24, Try.ntmps24
  go_wp2_with fail
  go_region
  go_wp2
  go_loop [6, 35] (fun v i => i = .int .i64 0 ∧ v = .slice (some ⟨w.heap.size + 1, 0, none⟩) 1 1) (fun _ i => 0 - (intOf i).toNat)
  case atStart => exact ⟨rfl, rfl⟩
  case round =>
    obtain ⟨rfl, rfl⟩ := hrel
    go_wp2
    go_ret
    exact ⟨_, rfl, by have h9 := HOP.out; rw [World.size_alloc] at h9; exact h9, HB1.out⟩
set_option maxHeartbeats 6400000 in
theorem prepend_not (b off c n0 c0 : Nat) (z : Int) (sb : Bool) (a0 : Option Addr) (ss : List (Bool × List Int)) (w : World) (hl0 : ss.length + sumP ss ≤ 50000) (hn : 0 < ss.length) (HRS : Hid (PthRd w (some ⟨b, off, none⟩) ss)) (h0 : w.cell? ⟨b, off, none⟩ = some (.bool sb)) (h1 : w.cell? ⟨b, off + 1, none⟩ = some (.slice a0 n0 c0)) (hno : (!sb && decide (n0 ≤ 254)) = false) :
    Calls Try.prog 24 #[.slice (some ⟨b, off, none⟩) ss.length c, .int .i64 z] w fun e w' => ∃ v, e = .returned v ∧ OwnPath w' w.heap.size v ([(false, [z])] ++ ss) ∧ Below w.heap.size w w' := by
  have hbl := World.block_lt_of_cell? w _ h0
  simp only at hbl
  have hbl1 : b < w.heap.size + 1 := by omega
  have hbl2 : b < w.heap.size + 1 + 1 := by omega
  have hbl3 : b < w.heap.size + 1 + 1 + 1 := by omega
  have hbl4 : b < w.heap.size + 1 + 1 + 1 + 1 := by omega
  have HL0 := hide hl0
  clear hl0
  generalize hnr : ss.length = nr at *
  have HNR := hide hnr
  clear hnr
  have hnrb : nr ≤ 50000 := by have := HL0.out; omega
  have jn : (0 : Int) < (nr : Int) := by omega
  have HM := hide (prep_meets sb a0 n0 c0 z w)
  rw [hno] at HM
  unfold prepW at HM
  clear hno
  go_enter Try.func24, Try.ntmps24
  go_wp2_with fail
  go_region_with (first
    | (go_at_call 35; refine (fromTo_any 0 254 _).mono ?_; rintro e w9 ⟨rfl, rfl⟩)
    | (go_at_call 34; refine HM.out.mono ?_; rintro e w8 ⟨rfl, hb8, ho8⟩; have HB8 := hide hb8; have HO8 := hide ho8; clear hb8 ho8))
  all_goals (
    have HOP := hide (own_path_one (w := w8) (zs := [z]) false HO8.out HB8.out.size)
    have HBL : Hid (Below w.heap.size w (w8.alloc (.cells #[.bool false, .slice (some ⟨w.heap.size, 0, none⟩) 1 1] 38))) := HB8.out.alloc HB8.out.size _
    clear HB8 HO8 HM
    go_wp2
    go_loopw [6, 35] (fun v i wq => ∃ k : Nat, k ≤ nr ∧ i = .int .i64 k ∧ Hid (OwnPath wq w.heap.size v ([(false, [z])] ++ ss.take k)) ∧ Hid (Below w.heap.size w wq)) (fun _ i _ => nr - (intOf i).toNat)
    case atStart => exact ⟨0, Nat.zero_le _, rfl, by show OwnPath _ _ _ _; rw [List.take_zero, List.append_nil]; exact HOP.out, HBL⟩
    case round =>
      clear HOP HBL
      obtain ⟨k, hk, rfl, HO, HB⟩ := hrel
      by_cases hlt : k < nr
      · have hkp : k < ss.length := by rw [HNR.out]; exact hlt
        obtain ⟨Bx, Ox, hae, hc⟩ := HRS.out.cells (by omega)
        cases hae
        obtain ⟨e0, a1, c1, e1, hr⟩ := hc k ss[k] (List.getElem?_eq_getElem hkp)
        have z0 := World.block_lt_of_cell? w _ e0
        simp only at z0
        have HT : Hid ([(false, [z])] ++ ss.take (k + 1) = [(false, [z])] ++ ss.take k ++ [ss[k]]) := by show [(false, [z])] ++ ss.take (k + 1) = _; rw [List.take_succ_eq_append_getElem hkp, ← List.append_assoc]
        have hll : (ss[k]).2.length ≤ 100000 := by have := sumP_mem ss _ (List.getElem_mem hkp); have := HL0.out; omega
        have hat : ([(false, [z])] ++ ss.take k).length ≤ 100000 := by
          have := HL0.out
          simp only [List.length_append, List.length_take, List.length_cons, List.length_nil]
          omega
        have d0 : wr.cell? ⟨b, off + k * 2, none⟩ = some (.bool (ss[k]).1) := by rw [HB.out.cell (p := ⟨b, off + k * 2, none⟩) z0]; exact e0
        have d1 : wr.cell? ⟨b, off + k * 2 + 1, none⟩ = some (.slice a1 (ss[k]).2.length c1) := by rw [HB.out.cell (p := ⟨b, off + k * 2 + 1, none⟩) z0]; exact e1
        have HCL : Hid (∀ w3, Below wr.heap.size wr w3 → Calls Try.prog 36 #[.slice a1 (ss[k]).2.length c1] w3 fun e w' => ∃ v, e = .returned v ∧ w'.ownsRow w3.heap.size 3 1 v (ss[k]).2.length (icells (ss[k]).2) ∧ Below w3.heap.size w3 w') := fun w3 hb3 => clone_any a1 c1 (ss[k]).2 w3 hll ((hr.below HB.out).below hb3)
        generalize hsk : ss[k] = sg at *
        clear hsk hr hc e0 e1
        obtain ⟨b1, zs⟩ := sg
        simp only at d0 d1 HCL hll
        have HZL : Hid (zs.length = zs.length) := rfl
        generalize hzl : zs.length = l at d0 d1 HCL hll
        have HZE := hide hzl
        clear hzl HZL
        have hk0 : (0 : Int) ≤ (k : Int) := Int.natCast_nonneg _
        have hk1 : (k : Int) < (nr : Int) := by omega
        have z1 : b < wr.heap.size := Nat.lt_of_lt_of_le z0 HB.out.size
        have HBS := hide HB.out.size
        have HC2 : Hid (Calls Try.prog 36 #[.slice a1 l c1] (wr.alloc (.cells #[.bool b1, .slice a1 l c1] 38)).drew fun e w5 => ∃ a9 c9 v6 w6, e = .returned (.slice a9 l c9) ∧ w5.cell? ⟨wr.heap.size, 0, none⟩ = some (.bool b1) ∧ wr.heap.size < w5.heap.size ∧ (Builtin.append_ #[22, 22] 22 #[u6, .slice (some ⟨w5.heap.size, 0, none⟩) 1 1]).run Try.prog (w5.alloc (.cells #[.bool b1, .slice a9 l c9] 38)) = .ok v6 w6 ∧ OwnPath w6 w.heap.size v6 ([(false, [z])] ++ ss.take (k + 1)) ∧ Below w.heap.size w w6) := by
          have hb0 : Below wr.heap.size wr (wr.alloc (.cells #[.bool b1, .slice a1 l c1] 38)).drew := ((Below.refl _ _).alloc (Nat.le_refl _) _).drew
          have hbs := HB.out.size
          have hb0s := hb0.size
          refine (HCL.out _ hb0).mono ?_
          rintro e w5 ⟨v5, rfl, ho5, hb5⟩
          obtain ⟨a9, c9, rfl⟩ := own_shape ho5
          have hB5 : Below w.heap.size w w5 := (HB.out.trans (hb0.mono hbs)).trans (hb5.mono (by omega))
          obtain ⟨v6, w6, hr6, ho6, hb6⟩ := ((HO.out.later hb0).later hb5).snoc (b := b1) (zs := zs) (u := .slice a9 l c9) (by rw [HZE.out]; exact own_base ho5 (by omega)) rfl hB5.size hat w5.heap.size rfl
          refine ⟨a9, c9, v6, w6, rfl, ?_, ?_, hr6, ?_, hB5.trans hb6⟩
          · rw [hb5.cell (p := ⟨wr.heap.size, 0, none⟩) (by simp)]; simp [go_sem]
          · have := hb5.size; simp at this; omega
          · rw [HT.out]; exact ho6
        go_wp2_with fail
        go_region_with (first
          | (go_at_call 36; refine HC2.out.mono ?_; rintro e w5 ⟨a9, c9, v6, w6, rfl, r0, hz5, hr6, ho6, hb6⟩; have HR6 := hide hr6; have HO6 := hide ho6; have HB6 := hide hb6; clear hr6 ho6 hb6)
          | (refine kept_appendS_intro _ _ _ (.slice (some ⟨w5.heap.size, 0, none⟩) 1 1) v6 (w' := w6) (by rfl) (by rfl) (by exact HR6.out) ?_))
        all_goals go_wp2
        all_goals exact ⟨⟨k + 1, by omega, by go_num, HO6, HB6⟩, by simp [intOf]; omega⟩
      · have hkl : ss.take k = ss := List.take_of_length_le (by rw [HNR.out]; omega)
        rw [hkl] at HO
        go_wp2
        go_ret
        exact ⟨_, rfl, HO.out, HB.out⟩)
end
end Go.Proofs.Ytnfokbpnjhhiiaa
