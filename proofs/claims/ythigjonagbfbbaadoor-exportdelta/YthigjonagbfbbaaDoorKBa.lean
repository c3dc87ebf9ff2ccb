/- bytes.Equal; slices.Equal of numbers. -/
import Derived.Test.YthigjonagbfbbaaDoorKAh
import Derived.Test.YthigjonagbfbbaaDoorKAf
import Derived.Test.YthigjonagbfbbaaDoorKAj
import Derived.Shelf.Abstract
namespace Go.Proofs.YthigjonagbfbbaaDoor
open Go.RowKit
set_option maxRecDepth 100000

/-- The bytes as a string has them. -/
def strB (bs : List Nat) : List UInt8 := bs.map fun x => UInt8.ofNat x
theorem strB_length (bs : List Nat) : (strB bs).length = bs.length := by simp [strB]
theorem run_strB (w : World) (a : Option Addr) (c : Nat) (bs : List Nat) (h : BRd w a bs) :
    (convert 71 9 (.slice a bs.length c)).run Tryd.prog w = .ok (.string ⟨(strB bs).toArray⟩) w := by
  have key : ∀ ad : Addr, (∀ (j x : Nat), bs[j]? = some x → w.cell? (ad.add j) = some (.int .u8 (x : Int))) → (convert 71 9 (.slice (some ad) bs.length c)).run Tryd.prog w = .ok (.string ⟨(strB bs).toArray⟩) w := fun ad hc => by
    have := run_convert_bytes_back (P := Tryd.prog) w 71 9 5 ad c (strB bs) Tryd.underlying71 Tryd.underlying5 Tryd.underlying9 (fun j hj => by
      have hj2 : j < bs.length := by rwa [strB_length] at hj
      rw [hc j _ (List.getElem?_eq_getElem hj2)]
      have e : (strB bs)[j].toNat = bs[j] := by
        simp only [strB, List.getElem_map, UInt8.toNat_ofNat']
        exact Nat.mod_eq_of_lt (h.2 _ (List.getElem_mem hj2))
      rw [e])
    rwa [strB_length] at this
  by_cases h0 : bs = []
  · subst h0
    cases a with
    | none => exact run_convert_bytes_nil w 71 5 Tryd.underlying71 Tryd.underlying5 0 c 9 Tryd.underlying9
    | some ad => exact key ad (fun j x hj => by simp at hj)
  · obtain ⟨_, h2⟩ := h.1
    obtain ⟨b, off, rfl, hc⟩ := h2 (List.length_pos_iff.2 h0)
    refine key _ (fun j x hj => ?_)
    have hj2 := (List.getElem?_eq_some_iff.1 hj).1
    have : w.cell? ⟨b, off + j, none⟩ = some (.int .u8 ((bs.getD j 0 : Nat) : Int)) := hc j hj2
    rw [List.getD_eq_getElem?_getD, hj] at this
    rw [Addr.add_mid]
    exact this
theorem strB_eq (xs ys : List Nat) (hx : ∀ x ∈ xs, x < 256) (hy : ∀ x ∈ ys, x < 256) : (strB xs == strB ys) = decide (xs = ys) := by
  rw [Bool.eq_iff_iff, beq_iff_eq, decide_eq_true_eq]
  refine ⟨fun e => ?_, fun e => by rw [e]⟩
  have hl : xs.length = ys.length := by rw [← strB_length, e, strB_length]
  apply List.ext_getElem hl
  intro i h1 h2
  have e3 := congrArg (fun l => l[i]?) e
  simp only [strB, List.getElem?_map, List.getElem?_eq_getElem h1, List.getElem?_eq_getElem h2, Option.map_some, Option.some.injEq] at e3
  have e4 := congrArg UInt8.toNat e3
  rw [UInt8.toNat_ofNat', UInt8.toNat_ofNat', Nat.mod_eq_of_lt (hx _ (List.getElem_mem h1)), Nat.mod_eq_of_lt (hy _ (List.getElem_mem h2))] at e4
  exact e4
set_option maxHeartbeats 400000 in
theorem peq_bytes (a1 a2 : Option Addr) (c1 c2 n1 n2 : Nat) (xs ys : List Nat) (w : World) (e1 : xs.length = n1) (e2 : ys.length = n2) (h1 : BRd w a1 xs) (h2 : BRd w a2 ys) :
    Calls Tryd.prog 81 #[.slice a1 n1 c1, .slice a2 n2 c2] w fun e w' => e = .returned (.bool (decide (xs = ys))) ∧ w' = w := by
  subst e1 e2
  have k1 := run_strB w a1 c1 xs h1
  have k2 := run_strB w a2 c2 ys h2
  have HE := hide (strB_eq xs ys h1.2 h2.2)
  clear h1 h2
  generalize strB xs = sf at *
  generalize strB ys = sg at *
  generalize xs.length = n1 at *
  generalize ys.length = n2 at *
  go_enter Tryd.func81, Tryd.ntmps81
  go_wp2
  go_ret
  exact ⟨ret_bool HE.out, rfl⟩
set_option maxHeartbeats 400000 in
theorem peq_ints_len (a1 a2 : Option Addr) (n1 n2 c1 c2 : Nat) (w : World) (h : n1 ≠ n2) : Calls Tryd.prog 80 #[.slice a1 n1 c1, .slice a2 n2 c2] w fun e w' => e = .returned (.bool false) ∧ ∃ m, w' = w.drewN m := by
  have e0 : ((n1 : Int) != (n2 : Int)) = true := by simp; omega
  clear h
  go_enter Tryd.func80, Tryd.ntmps80
  go_wp2
  go_ret
  exact ⟨rfl, 0, rfl⟩
set_option maxHeartbeats 400000 in
theorem peq_ints_empty (a1 a2 : Option Addr) (c1 c2 : Nat) (w : World) : Calls Tryd.prog 80 #[.slice a1 0 c1, .slice a2 0 c2] w fun e w' => e = .returned (.bool true) ∧ ∃ m, w' = w.drewN m := by
  go_enter Tryd.func80, Tryd.ntmps80
  go_wp2
  go_loopw [13] (fun i wq => i = .int .i64 0 ∧ wq = w) (fun i _ => 0 - (intOf i).toNat)
  case atStart => exact ⟨rfl, rfl⟩
  case round =>
    obtain ⟨rfl, rfl⟩ := hrel
    go_wp2
    go_ret
    exact ⟨rfl, 0, rfl⟩
set_option maxHeartbeats 1600000 in
theorem peq_ints_some (f1 e1 f2 e2 l c1 c2 : Nat) (zs ys : List Int) (w : World) (hz : zs.length = l) (hy : ys.length = l) (hb : l ≤ 100000)
    (hz1 : ∀ (j : Nat) (z : Int), zs[j]? = some z → w.cell? ⟨f1, e1 + j, none⟩ = some (.int .i64 z)) (hz2 : ∀ (j : Nat) (z : Int), ys[j]? = some z → w.cell? ⟨f2, e2 + j, none⟩ = some (.int .i64 z)) :
    Calls Tryd.prog 80 #[.slice (some ⟨f1, e1, none⟩) l c1, .slice (some ⟨f2, e2, none⟩) l c2] w fun e w' => e = .returned (.bool (decide (zs = ys))) ∧ ∃ m, w' = w.drewN m := by
  have H1 := hide hz1
  have H2 := hide hz2
  have HL := hide hz
  have HLL := hide hy
  clear hz1 hz2 hz hy
  go_enter Tryd.func80, Tryd.ntmps80
  go_wp2
  go_loopw [13] (fun i wq => ∃ j m : Nat, j ≤ l ∧ i = .int .i64 j ∧ Hid (wq = w.drewN m) ∧ Hid (zs.take j = ys.take j)) (fun i _ => l - (intOf i).toNat)
  case atStart => exact ⟨0, 0, Nat.zero_le _, rfl, rfl, rfl⟩
  case round =>
    obtain ⟨j, m2, hj, rfl, HW2, HJ⟩ := hrel
    by_cases hlj : j < l
    · have hjz : j < zs.length := by rw [HL.out]; exact hlj
      have hjy : j < ys.length := by rw [HLL.out]; exact hlj
      have cz := H1.out j _ (List.getElem?_eq_getElem hjz)
      have cy := H2.out j _ (List.getElem?_eq_getElem hjy)
      rw [← cell_drewN _ m2, ← HW2.out] at cz cy
      have HJN : Hid (zs[j] ≠ ys[j] → decide (zs = ys) = false) := fun h => decide_eq_false (fun e => h (by subst e; rfl))
      have HJT : Hid (zs[j] = ys[j] → zs.take (j + 1) = ys.take (j + 1)) := fun h => by rw [List.take_succ_eq_append_getElem hjz, List.take_succ_eq_append_getElem hjy, HJ.out, h]
      generalize zs[j] = z at *
      generalize ys[j] = y at *
      have hj0 : (0 : Int) ≤ (j : Int) := Int.natCast_nonneg _
      have hj1 : (j : Int) < (l : Int) := by omega
      by_cases hzy : z = y
      · have HJ2 := hide (HJT.out hzy)
        subst hzy
        go_wp2_with fail
        go_quiet (fail)
        go_wp2
        exact ⟨⟨j + 1, m2 + nq, by omega, by go_num, show wr.drewN nq = _ by rw [HW2.out, drewN_more], HJ2⟩, by simp [intOf]; omega⟩
      · have HG := hide (HJN.out hzy)
        have ez : ((z : Int) != (y : Int)) = true := by rw [bne_iff_ne]; omega
        clear hzy
        go_wp2_with fail
        go_quiet (fail)
        go_wp2
        go_ret
        exact ⟨ret_bool HG.out.symm, m2 + nq, show wr.drewN nq = _ by rw [HW2.out, drewN_more]⟩
    · have HT2 : Hid (decide (zs = ys) = true) := decide_eq_true (by
        have := HJ.out
        rw [List.take_of_length_le (by rw [HL.out]; omega), List.take_of_length_le (by rw [HLL.out]; omega)] at this
        exact this)
      go_wp2
      go_ret
      exact ⟨ret_bool HT2.out.symm, m2, HW2.out⟩
theorem peq_ints (a1 a2 : Option Addr) (c1 c2 n1 n2 : Nat) (zs ys : List Int) (w : World) (hz : zs.length = n1) (hy : ys.length = n2) (hb : n1 ≤ 100000) (h1 : IRd w a1 zs) (h2 : IRd w a2 ys) :
    Calls Tryd.prog 80 #[.slice a1 n1 c1, .slice a2 n2 c2] w fun e w' => e = .returned (.bool (decide (zs = ys))) ∧ ∃ m, w' = w.drewN m := by
  by_cases hl : n1 = n2
  · subst hl
    by_cases h0 : n1 = 0
    · subst h0
      rw [decide_eq_true (by rw [List.eq_nil_of_length_eq_zero hz, List.eq_nil_of_length_eq_zero hy])]
      exact peq_ints_empty a1 a2 c1 c2 w
    · obtain ⟨f1, e1, rfl, g1⟩ := h1 (by omega)
      obtain ⟨f2, e2, rfl, g2⟩ := h2 (by omega)
      exact peq_ints_some f1 e1 f2 e2 n1 c1 c2 zs ys w hz hy hb g1 g2
  · rw [decide_eq_false (fun e => hl (by rw [← hz, ← hy, e]))]
    exact peq_ints_len a1 a2 n1 n2 c1 c2 w hl
set_option maxHeartbeats 400000 in
theorem peq_u32s_len (a1 a2 : Option Addr) (n1 n2 c1 c2 : Nat) (w : World) (h : n1 ≠ n2) : Calls Tryd.prog 66 #[.slice a1 n1 c1, .slice a2 n2 c2] w fun e w' => e = .returned (.bool false) ∧ ∃ m, w' = w.drewN m := by
  have e0 : ((n1 : Int) != (n2 : Int)) = true := by simp; omega
  clear h
  go_enter Tryd.func66, Tryd.ntmps66
  go_wp2
  go_ret
  exact ⟨rfl, 0, rfl⟩
set_option maxHeartbeats 400000 in
theorem peq_u32s_empty (a1 a2 : Option Addr) (c1 c2 : Nat) (w : World) : Calls Tryd.prog 66 #[.slice a1 0 c1, .slice a2 0 c2] w fun e w' => e = .returned (.bool true) ∧ ∃ m, w' = w.drewN m := by
  go_enter Tryd.func66, Tryd.ntmps66
  go_wp2
  go_loopw [13] (fun i wq => i = .int .i64 0 ∧ wq = w) (fun i _ => 0 - (intOf i).toNat)
  case atStart => exact ⟨rfl, rfl⟩
  case round =>
    obtain ⟨rfl, rfl⟩ := hrel
    go_wp2
    go_ret
    exact ⟨rfl, 0, rfl⟩
set_option maxHeartbeats 1600000 in
theorem peq_u32s_some (f1 e1 f2 e2 l c1 c2 : Nat) (zs ys : List Nat) (w : World) (hz : zs.length = l) (hy : ys.length = l) (hb : l ≤ 100000)
    (hz1 : ∀ (j : Nat) (z : Nat), zs[j]? = some z → w.cell? ⟨f1, e1 + j, none⟩ = some (.int .u32 (z : Int))) (hz2 : ∀ (j : Nat) (z : Nat), ys[j]? = some z → w.cell? ⟨f2, e2 + j, none⟩ = some (.int .u32 (z : Int))) :
    Calls Tryd.prog 66 #[.slice (some ⟨f1, e1, none⟩) l c1, .slice (some ⟨f2, e2, none⟩) l c2] w fun e w' => e = .returned (.bool (decide (zs = ys))) ∧ ∃ m, w' = w.drewN m := by
  have H1 := hide hz1
  have H2 := hide hz2
  have HL := hide hz
  have HLL := hide hy
  clear hz1 hz2 hz hy
  go_enter Tryd.func66, Tryd.ntmps66
  go_wp2
  go_loopw [13] (fun i wq => ∃ j m : Nat, j ≤ l ∧ i = .int .i64 j ∧ Hid (wq = w.drewN m) ∧ Hid (zs.take j = ys.take j)) (fun i _ => l - (intOf i).toNat)
  case atStart => exact ⟨0, 0, Nat.zero_le _, rfl, rfl, rfl⟩
  case round =>
    obtain ⟨j, m2, hj, rfl, HW2, HJ⟩ := hrel
    by_cases hlj : j < l
    · have hjz : j < zs.length := by rw [HL.out]; exact hlj
      have hjy : j < ys.length := by rw [HLL.out]; exact hlj
      have cz := H1.out j _ (List.getElem?_eq_getElem hjz)
      have cy := H2.out j _ (List.getElem?_eq_getElem hjy)
      rw [← cell_drewN _ m2, ← HW2.out] at cz cy
      have HJN : Hid (zs[j] ≠ ys[j] → decide (zs = ys) = false) := fun h => decide_eq_false (fun e => h (by subst e; rfl))
      have HJT : Hid (zs[j] = ys[j] → zs.take (j + 1) = ys.take (j + 1)) := fun h => by rw [List.take_succ_eq_append_getElem hjz, List.take_succ_eq_append_getElem hjy, HJ.out, h]
      generalize zs[j] = z at *
      generalize ys[j] = y at *
      have hj0 : (0 : Int) ≤ (j : Int) := Int.natCast_nonneg _
      have hj1 : (j : Int) < (l : Int) := by omega
      by_cases hzy : z = y
      · have HJ2 := hide (HJT.out hzy)
        subst hzy
        go_wp2_with fail
        go_quiet (fail)
        go_wp2
        exact ⟨⟨j + 1, m2 + nq, by omega, by go_num, show wr.drewN nq = _ by rw [HW2.out, drewN_more], HJ2⟩, by simp [intOf]; omega⟩
      · have HG := hide (HJN.out hzy)
        have ez : ((z : Int) != (y : Int)) = true := by rw [bne_iff_ne]; omega
        clear hzy
        go_wp2_with fail
        go_quiet (fail)
        go_wp2
        go_ret
        exact ⟨ret_bool HG.out.symm, m2 + nq, show wr.drewN nq = _ by rw [HW2.out, drewN_more]⟩
    · have HT2 : Hid (decide (zs = ys) = true) := decide_eq_true (by
        have := HJ.out
        rw [List.take_of_length_le (by rw [HL.out]; omega), List.take_of_length_le (by rw [HLL.out]; omega)] at this
        exact this)
      go_wp2
      go_ret
      exact ⟨ret_bool HT2.out.symm, m2, HW2.out⟩
theorem peq_u32s (a1 a2 : Option Addr) (c1 c2 n1 n2 : Nat) (zs ys : List Nat) (w : World) (hz : zs.length = n1) (hy : ys.length = n2) (hb : n1 ≤ 100000) (h1 : CRd w a1 zs) (h2 : CRd w a2 ys) :
    Calls Tryd.prog 66 #[.slice a1 n1 c1, .slice a2 n2 c2] w fun e w' => e = .returned (.bool (decide (zs = ys))) ∧ ∃ m, w' = w.drewN m := by
  by_cases hl : n1 = n2
  · subst hl
    by_cases h0 : n1 = 0
    · subst h0
      rw [decide_eq_true (by rw [List.eq_nil_of_length_eq_zero hz, List.eq_nil_of_length_eq_zero hy])]
      exact peq_u32s_empty a1 a2 c1 c2 w
    · obtain ⟨f1, e1, rfl, g1⟩ := h1 (by omega)
      obtain ⟨f2, e2, rfl, g2⟩ := h2 (by omega)
      exact peq_u32s_some f1 e1 f2 e2 n1 c1 c2 zs ys w hz hy hb g1 g2
  · rw [decide_eq_false (fun e => hl (by rw [← hz, ← hy, e]))]
    exact peq_u32s_len a1 a2 n1 n2 c1 c2 w hl
end Go.Proofs.YthigjonagbfbbaaDoor
/- sameSegment, sameRaw, slices.EqualFunc of parts and of Raws. -/
namespace Go.Proofs.YthigjonagbfbbaaDoor
open Go.RowKit
set_option maxRecDepth 100000

set_option maxHeartbeats 800000 in
theorem sseg_any (b1 b2 : Bool) (a1 a2 : Option Addr) (n1 n2 c1 c2 : Nat) (zs ys : List Int) (w : World) (hz : zs.length = n1) (hy : ys.length = n2) (hb : n1 ≤ 100000) (h1 : IRd w a1 zs) (h2 : IRd w a2 ys) :
    Calls Tryd.prog 65 #[.agg #[.bool b1, .slice a1 n1 c1], .agg #[.bool b2, .slice a2 n2 c2]] w fun e w' => e = .returned (.bool (decide (((b1, zs) : Bool × List Int) = (b2, ys)))) ∧ Below w.heap.size w w' := by
  have hbb : Below w.heap.size w ((w.alloc (.cells #[.bool b1, .slice a1 n1 c1] 69)).alloc (.cells #[.bool b2, .slice a2 n2 c2] 69)) := ((Below.refl _ _).alloc (Nat.le_refl _) _).alloc (by simp) _
  have K := hide (peq_ints a1 a2 c1 c2 n1 n2 zs ys _ hz hy hb (h1.below hbb) (h2.below hbb))
  have HB := hide hbb
  clear hbb h1 h2
  by_cases he : b1 = b2
  · have HE : Hid (decide (zs = ys) = decide (((b1, zs) : Bool × List Int) = (b2, ys))) := by show decide _ = decide _; rw [decide_eq_decide]; simp [he]
    have ht : (b1 == b2) = true := by simpa using he
    clear he
    go_enter Tryd.func65, Tryd.ntmps65
    go_wp2_with fail
    refine K.out.mono ?_
    rintro e w1 ⟨rfl, m, hm⟩
    have HB1 : Hid (Below w.heap.size w w1) := by show Below _ _ _; rw [hm]; exact below_drewN HB.out m
    clear hm
    go_wp2
    go_ret
    exact ⟨ret_bool HE.out, HB1.out⟩
  · have HE : Hid (decide (((b1, zs) : Bool × List Int) = (b2, ys)) = false) := decide_eq_false (fun e => he (by injection e))
    have ht : (b1 == b2) = false := by simpa using he
    clear he
    go_enter Tryd.func65, Tryd.ntmps65
    go_wp2
    go_ret
    exact ⟨ret_bool HE.out.symm, HB.out⟩
set_option maxHeartbeats 800000 in
theorem sraw_any (f1 t1 f2 t2 : Int) (a1 a2 : Option Addr) (n1 n2 c1 c2 : Nat) (zs ys : List Nat) (w : World) (hz : zs.length = n1) (hy : ys.length = n2) (h1 : BRd w a1 zs) (h2 : BRd w a2 ys) :
    Calls Tryd.prog 68 #[.agg #[.int .i64 f1, .int .i64 t1, .slice a1 n1 c1], .agg #[.int .i64 f2, .int .i64 t2, .slice a2 n2 c2]] w fun e w' => e = .returned (.bool (decide (((f1, t1, zs) : Int × Int × List Nat) = (f2, t2, ys)))) ∧ Below w.heap.size w w' := by
  have hbb : Below w.heap.size w ((w.alloc (.cells #[.int .i64 f1, .int .i64 t1, .slice a1 n1 c1] 73)).alloc (.cells #[.int .i64 f2, .int .i64 t2, .slice a2 n2 c2] 73)) := ((Below.refl _ _).alloc (Nat.le_refl _) _).alloc (by simp) _
  have K := hide (peq_bytes a1 a2 c1 c2 n1 n2 zs ys _ hz hy (h1.below hbb) (h2.below hbb))
  have HB := hide hbb
  clear hbb h1 h2
  by_cases he : f1 = f2
  · have ht : (f1 == f2) = true := by simpa using he
    by_cases he2 : t1 = t2
    · have HE : Hid (decide (zs = ys) = decide (((f1, t1, zs) : Int × Int × List Nat) = (f2, t2, ys))) := by show decide _ = decide _; rw [decide_eq_decide]; simp [he, he2]
      have ht2 : (t1 == t2) = true := by simpa using he2
      clear he he2
      go_enter Tryd.func68, Tryd.ntmps68
      go_wp2_with fail
      refine K.out.mono ?_
      rintro e w1 ⟨rfl, hm⟩
      have HB1 : Hid (Below w.heap.size w w1) := by show Below _ _ _; rw [hm]; exact HB.out
      clear hm
      go_wp2
      go_ret
      exact ⟨ret_bool HE.out, HB1.out⟩
    · have HE : Hid (decide (((f1, t1, zs) : Int × Int × List Nat) = (f2, t2, ys)) = false) := decide_eq_false (fun e => he2 (by injection e with _ e2; injection e2))
      have ht2 : (t1 == t2) = false := by simpa using he2
      clear he he2
      go_enter Tryd.func68, Tryd.ntmps68
      go_wp2
      go_ret
      exact ⟨ret_bool HE.out.symm, HB.out⟩
  · have HE : Hid (decide (((f1, t1, zs) : Int × Int × List Nat) = (f2, t2, ys)) = false) := decide_eq_false (fun e => he (by injection e))
    have ht : (f1 == f2) = false := by simpa using he
    clear he
    go_enter Tryd.func68, Tryd.ntmps68
    go_wp2
    go_ret
    exact ⟨ret_bool HE.out.symm, HB.out⟩
set_option maxHeartbeats 400000 in
theorem efs_len (a1 a2 : Option Addr) (n1 n2 c1 c2 : Nat) (w : World) (h : n1 ≠ n2) : Calls Tryd.prog 64 #[.slice a1 n1 c1, .slice a2 n2 c2, .func (.func 65) #[] #[]] w fun e w' => e = .returned (.bool false) ∧ Below w.heap.size w w' := by
  have e0 : ((n1 : Int) != (n2 : Int)) = true := by simp; omega
  clear h
  go_enter Tryd.func64, Tryd.ntmps64
  go_wp2
  go_ret
  exact ⟨rfl, Below.refl _ _⟩
set_option maxHeartbeats 400000 in
theorem efs_empty (a1 a2 : Option Addr) (c1 c2 : Nat) (w : World) : Calls Tryd.prog 64 #[.slice a1 0 c1, .slice a2 0 c2, .func (.func 65) #[] #[]] w fun e w' => e = .returned (.bool true) ∧ Below w.heap.size w w' := by
  go_enter Tryd.func64, Tryd.ntmps64
  go_wp2
  go_loopw [17] (fun i wq => i = .int .i64 0 ∧ wq = w) (fun i _ => 0 - (intOf i).toNat)
  case atStart => exact ⟨rfl, rfl⟩
  case round =>
    obtain ⟨rfl, rfl⟩ := hrel
    go_wp2
    go_ret
    exact ⟨rfl, Below.refl _ _⟩
set_option maxHeartbeats 1600000 in
theorem efs_some (g1 o1 g2 o2 l c1 c2 : Nat) (p q : List (Bool × List Int)) (w : World) (hp : p.length = l) (hq : q.length = l) (hb : l ≤ 100000) (hs : ∀ s ∈ p, s.2.length ≤ 100000)
    (h1 : ∀ (i : Nat) (s : Bool × List Int), p[i]? = some s → w.cell? ⟨g1, o1 + i * 2, none⟩ = some (.bool s.1) ∧ ∃ a' c', w.cell? ⟨g1, o1 + i * 2 + 1, none⟩ = some (.slice a' s.2.length c') ∧ IRd w a' s.2)
    (h2 : ∀ (i : Nat) (s : Bool × List Int), q[i]? = some s → w.cell? ⟨g2, o2 + i * 2, none⟩ = some (.bool s.1) ∧ ∃ a' c', w.cell? ⟨g2, o2 + i * 2 + 1, none⟩ = some (.slice a' s.2.length c') ∧ IRd w a' s.2) :
    Calls Tryd.prog 64 #[.slice (some ⟨g1, o1, none⟩) l c1, .slice (some ⟨g2, o2, none⟩) l c2, .func (.func 65) #[] #[]] w fun e w' => e = .returned (.bool (decide (p = q))) ∧ Below w.heap.size w w' := by
  have eg : ∀ args w, (callFunc 65 args).run Tryd.prog w = .ok (.enter 65 args) w := enters_of Tryd.func65 (by kernel_rfl) rfl
  have H1 := hide h1
  have H2 := hide h2
  have HP := hide hp
  have HQ := hide hq
  have HS := hide hs
  clear h1 h2 hp hq hs
  go_enter Tryd.func64, Tryd.ntmps64
  go_wp2
  go_loopw [17] (fun i wq => ∃ k : Nat, k ≤ l ∧ i = .int .i64 k ∧ Hid (Below w.heap.size w wq) ∧ Hid (p.take k = q.take k)) (fun i _ => l - (intOf i).toNat)
  case atStart => exact ⟨0, Nat.zero_le _, rfl, Below.refl _ _, rfl⟩
  case round =>
    obtain ⟨k, hk, rfl, HB, HT⟩ := hrel
    by_cases hlt : k < l
    · have hkp : k < p.length := by rw [HP.out]; exact hlt
      have hkq : k < q.length := by rw [HQ.out]; exact hlt
      obtain ⟨x0, a1, d1, x1, r1⟩ := H1.out k p[k] (List.getElem?_eq_getElem hkp)
      obtain ⟨y0, a2, d2, y1, r2⟩ := H2.out k q[k] (List.getElem?_eq_getElem hkq)
      have HNE : Hid (decide (p[k] = q[k]) = false → decide (p = q) = false) := fun h => decide_eq_false (fun e => of_decide_eq_false h (by subst e; rfl))
      have HTK : Hid (decide (p[k] = q[k]) = true → p.take (k + 1) = q.take (k + 1)) := fun h => by rw [List.take_succ_eq_append_getElem hkp, List.take_succ_eq_append_getElem hkq, HT.out, of_decide_eq_true h]
      have zx := World.block_lt_of_cell? w _ x0
      have zy := World.block_lt_of_cell? w _ y0
      simp only at zx zy
      rw [← HB.out.cell (p := ⟨g1, o1 + k * 2, none⟩) zx] at x0
      rw [← HB.out.cell (p := ⟨g1, o1 + k * 2 + 1, none⟩) zx] at x1
      rw [← HB.out.cell (p := ⟨g2, o2 + k * 2, none⟩) zy] at y0
      rw [← HB.out.cell (p := ⟨g2, o2 + k * 2 + 1, none⟩) zy] at y1
      have wx : g1 < wr.heap.size := Nat.lt_of_lt_of_le zx HB.out.size
      have wy : g2 < wr.heap.size := Nat.lt_of_lt_of_le zy HB.out.size
      have hsk := HS.out p[k] (List.getElem_mem hkp)
      have KC : Hid (∀ w1, Below w.heap.size w w1 → Calls Tryd.prog 65 #[.agg #[.bool (p[k]).1, .slice a1 (p[k]).2.length d1], .agg #[.bool (q[k]).1, .slice a2 (q[k]).2.length d2]] w1 fun e w' => e = .returned (.bool (decide (p[k] = q[k]))) ∧ Below w1.heap.size w1 w') := fun w1 hb1 => sseg_any (p[k]).1 (q[k]).1 a1 a2 _ _ d1 d2 (p[k]).2 (q[k]).2 w1 rfl rfl hsk (r1.below hb1) (r2.below hb1)
      have HBB : Hid (∀ x y, Below w.heap.size w ((wr.alloc x).alloc y)) := fun x y => (HB.out.alloc HB.out.size _).alloc (by have := HB.out.size; simp; omega) _
      clear hsk r1 r2
      generalize decide (p[k] = q[k]) = g at *
      generalize (p[k]).1 = s1 at *
      generalize (q[k]).1 = s2 at *
      generalize (p[k]).2.length = l1 at *
      generalize (q[k]).2.length = l2 at *
      have hk0 : (0 : Int) ≤ (k : Int) := Int.natCast_nonneg _
      have hk1 : (k : Int) < (l : Int) := by omega
      go_wp2_with fail
      refine (KC.out _ (HBB.out _ _)).mono ?_
      rintro e w2 ⟨rfl, hb2⟩
      have HB2 : Hid (Below w.heap.size w w2) := (HBB.out _ _).trans (hb2.mono (HBB.out _ _).size)
      clear hb2 KC HBB
      cases g with
      | true =>
        have HT2 := hide (HTK.out rfl)
        go_wp2
        exact ⟨⟨k + 1, by omega, by go_num, HB2, HT2⟩, by simp [intOf]; omega⟩
      | false =>
        have HG := hide (HNE.out rfl)
        go_wp2
        go_ret
        exact ⟨ret_bool HG.out.symm, HB2.out⟩
    · have HE : Hid (decide (p = q) = true) := decide_eq_true (by
        have := HT.out
        rw [List.take_of_length_le (by rw [HP.out]; omega), List.take_of_length_le (by rw [HQ.out]; omega)] at this
        exact this)
      go_wp2
      go_ret
      exact ⟨ret_bool HE.out.symm, HB.out⟩
set_option maxHeartbeats 400000 in
theorem efr_len (a1 a2 : Option Addr) (n1 n2 c1 c2 : Nat) (w : World) (h : n1 ≠ n2) : Calls Tryd.prog 67 #[.slice a1 n1 c1, .slice a2 n2 c2, .func (.func 68) #[] #[]] w fun e w' => e = .returned (.bool false) ∧ Below w.heap.size w w' := by
  have e0 : ((n1 : Int) != (n2 : Int)) = true := by simp; omega
  clear h
  go_enter Tryd.func67, Tryd.ntmps67
  go_wp2
  go_ret
  exact ⟨rfl, Below.refl _ _⟩
set_option maxHeartbeats 400000 in
theorem efr_empty (a1 a2 : Option Addr) (c1 c2 : Nat) (w : World) : Calls Tryd.prog 67 #[.slice a1 0 c1, .slice a2 0 c2, .func (.func 68) #[] #[]] w fun e w' => e = .returned (.bool true) ∧ Below w.heap.size w w' := by
  go_enter Tryd.func67, Tryd.ntmps67
  go_wp2
  go_loopw [17] (fun i wq => i = .int .i64 0 ∧ wq = w) (fun i _ => 0 - (intOf i).toNat)
  case atStart => exact ⟨rfl, rfl⟩
  case round =>
    obtain ⟨rfl, rfl⟩ := hrel
    go_wp2
    go_ret
    exact ⟨rfl, Below.refl _ _⟩
set_option maxHeartbeats 1600000 in
theorem efr_some (g1 o1 g2 o2 l c1 c2 : Nat) (p q : List (Int × Int × List Nat)) (w : World) (hp : p.length = l) (hq : q.length = l) (hb : l ≤ 100000) (hs : ∀ s ∈ p, s.2.2.length ≤ 100000)
    (h1 : RawAt w g1 o1 p)
    (h2 : RawAt w g2 o2 q) :
    Calls Tryd.prog 67 #[.slice (some ⟨g1, o1, none⟩) l c1, .slice (some ⟨g2, o2, none⟩) l c2, .func (.func 68) #[] #[]] w fun e w' => e = .returned (.bool (decide (p = q))) ∧ Below w.heap.size w w' := by
  have eg : ∀ args w, (callFunc 68 args).run Tryd.prog w = .ok (.enter 68 args) w := enters_of Tryd.func68 (by kernel_rfl) rfl
  have H1 := hide h1
  have H2 := hide h2
  have HP := hide hp
  have HQ := hide hq
  have HS := hide hs
  clear h1 h2 hp hq hs
  go_enter Tryd.func67, Tryd.ntmps67
  go_wp2
  go_loopw [17] (fun i wq => ∃ k : Nat, k ≤ l ∧ i = .int .i64 k ∧ Hid (Below w.heap.size w wq) ∧ Hid (p.take k = q.take k)) (fun i _ => l - (intOf i).toNat)
  case atStart => exact ⟨0, Nat.zero_le _, rfl, Below.refl _ _, rfl⟩
  case round =>
    obtain ⟨k, hk, rfl, HB, HT⟩ := hrel
    by_cases hlt : k < l
    · have hkp : k < p.length := by rw [HP.out]; exact hlt
      have hkq : k < q.length := by rw [HQ.out]; exact hlt
      obtain ⟨x0, x1, a1, d1, x2, _, r1⟩ := H1.out k p[k] (List.getElem?_eq_getElem hkp)
      obtain ⟨y0, y1, a2, d2, y2, _, r2⟩ := H2.out k q[k] (List.getElem?_eq_getElem hkq)
      have HNE : Hid (decide (p[k] = q[k]) = false → decide (p = q) = false) := fun h => decide_eq_false (fun e => of_decide_eq_false h (by subst e; rfl))
      have HTK : Hid (decide (p[k] = q[k]) = true → p.take (k + 1) = q.take (k + 1)) := fun h => by rw [List.take_succ_eq_append_getElem hkp, List.take_succ_eq_append_getElem hkq, HT.out, of_decide_eq_true h]
      have zx := World.block_lt_of_cell? w _ x0
      have zy := World.block_lt_of_cell? w _ y0
      simp only at zx zy
      rw [← HB.out.cell (p := ⟨g1, o1 + k * 3, none⟩) zx] at x0
      rw [← HB.out.cell (p := ⟨g1, o1 + k * 3 + 1, none⟩) zx] at x1
      rw [← HB.out.cell (p := ⟨g1, o1 + k * 3 + 2, none⟩) zx] at x2
      rw [← HB.out.cell (p := ⟨g2, o2 + k * 3, none⟩) zy] at y0
      rw [← HB.out.cell (p := ⟨g2, o2 + k * 3 + 1, none⟩) zy] at y1
      rw [← HB.out.cell (p := ⟨g2, o2 + k * 3 + 2, none⟩) zy] at y2
      have wx : g1 < wr.heap.size := Nat.lt_of_lt_of_le zx HB.out.size
      have wy : g2 < wr.heap.size := Nat.lt_of_lt_of_le zy HB.out.size
      have hsk := HS.out p[k] (List.getElem_mem hkp)
      have KC : Hid (∀ w1, Below w.heap.size w w1 → Calls Tryd.prog 68 #[.agg #[.int .i64 (p[k]).1, .int .i64 (p[k]).2.1, .slice a1 (p[k]).2.2.length d1], .agg #[.int .i64 (q[k]).1, .int .i64 (q[k]).2.1, .slice a2 (q[k]).2.2.length d2]] w1 fun e w' => e = .returned (.bool (decide (p[k] = q[k]))) ∧ Below w1.heap.size w1 w') := fun w1 hb1 => sraw_any (p[k]).1 (p[k]).2.1 (q[k]).1 (q[k]).2.1 a1 a2 _ _ d1 d2 (p[k]).2.2 (q[k]).2.2 w1 rfl rfl (r1.below hb1) (r2.below hb1)
      have HBB : Hid (∀ x y, Below w.heap.size w ((wr.alloc x).alloc y)) := fun x y => (HB.out.alloc HB.out.size _).alloc (by have := HB.out.size; simp; omega) _
      clear hsk r1 r2
      generalize decide (p[k] = q[k]) = g at *
      generalize (p[k]).1 = s1 at *
      generalize (q[k]).1 = s2 at *
      generalize (p[k]).2.1 = t1 at *
      generalize (q[k]).2.1 = t2 at *
      generalize (p[k]).2.2.length = l1 at *
      generalize (q[k]).2.2.length = l2 at *
      have hk0 : (0 : Int) ≤ (k : Int) := Int.natCast_nonneg _
      have hk1 : (k : Int) < (l : Int) := by omega
      go_wp2_with fail
      refine (KC.out _ (HBB.out _ _)).mono ?_
      rintro e w2 ⟨rfl, hb2⟩
      have HB2 : Hid (Below w.heap.size w w2) := (HBB.out _ _).trans (hb2.mono (HBB.out _ _).size)
      clear hb2 KC HBB
      cases g with
      | true =>
        have HT2 := hide (HTK.out rfl)
        go_wp2
        exact ⟨⟨k + 1, by omega, by go_num, HB2, HT2⟩, by simp [intOf]; omega⟩
      | false =>
        have HG := hide (HNE.out rfl)
        go_wp2
        go_ret
        exact ⟨ret_bool HG.out.symm, HB2.out⟩
    · have HE : Hid (decide (p = q) = true) := decide_eq_true (by
        have := HT.out
        rw [List.take_of_length_le (by rw [HP.out]; omega), List.take_of_length_le (by rw [HQ.out]; omega)] at this
        exact this)
      go_wp2
      go_ret
      exact ⟨ret_bool HE.out.symm, HB.out⟩
end Go.Proofs.YthigjonagbfbbaaDoor
/- The program's Same of attributes. -/
namespace Go.Proofs.YthigjonagbfbbaaDoor
open Go.RowKit
set_option maxRecDepth 100000

theorem sumP_in : ∀ (l : List (Bool × List Int)) (s : Bool × List Int), s ∈ l → s.2.length ≤ sumP l
  | [], s, h => by simp at h
  | t :: l, s, h => by
    rcases List.mem_cons.1 h with rfl | h9
    · simp only [sumP]; omega
    · have := sumP_in l s h9
      simp only [sumP]; omega
theorem sumR_in : ∀ (l : List (Int × Int × List Nat)) (s : Int × Int × List Nat), s ∈ l → s.2.2.length ≤ sumR l
  | [], s, h => by simp at h
  | t :: l, s, h => by
    rcases List.mem_cons.1 h with rfl | h9
    · simp only [sumR]; omega
    · have := sumR_in l s h9
      simp only [sumR]; omega
theorem efs_any (a1 a2 : Option Addr) (c1 c2 n1 n2 : Nat) (p q : List (Bool × List Int)) (w : World) (hp : p.length = n1) (hq : q.length = n2) (hs : n1 + sumP p ≤ 100000) (h1 : PthRd w a1 p) (h2 : PthRd w a2 q) :
    Calls Tryd.prog 64 #[.slice a1 n1 c1, .slice a2 n2 c2, .func (.func 65) #[] #[]] w fun e w' => e = .returned (.bool (decide (p = q))) ∧ Below w.heap.size w w' := by
  by_cases hl : n1 = n2
  · subst hl
    by_cases h0 : n1 = 0
    · subst h0
      rw [decide_eq_true (by rw [List.eq_nil_of_length_eq_zero hp, List.eq_nil_of_length_eq_zero hq])]
      exact efs_empty a1 a2 c1 c2 w
    · obtain ⟨f1, e1, rfl, g1⟩ := h1.cells (by omega)
      obtain ⟨f2, e2, rfl, g2⟩ := h2.cells (by omega)
      exact efs_some f1 e1 f2 e2 n1 c1 c2 p q w hp hq (by omega) (fun s hs2 => by have := sumP_in p s hs2; omega) g1 g2
  · rw [decide_eq_false (fun e => hl (by rw [← hp, ← hq, e]))]
    exact efs_len a1 a2 n1 n2 c1 c2 w hl
theorem efr_any (a1 a2 : Option Addr) (c1 c2 n1 n2 : Nat) (p q : List (Int × Int × List Nat)) (w : World) (hp : p.length = n1) (hq : q.length = n2) (hs : n1 + sumR p ≤ 100000) (h1 : RawRd w a1 p) (h2 : RawRd w a2 q) :
    Calls Tryd.prog 67 #[.slice a1 n1 c1, .slice a2 n2 c2, .func (.func 68) #[] #[]] w fun e w' => e = .returned (.bool (decide (p = q))) ∧ Below w.heap.size w w' := by
  by_cases hl : n1 = n2
  · subst hl
    by_cases h0 : n1 = 0
    · subst h0
      rw [decide_eq_true (by rw [List.eq_nil_of_length_eq_zero hp, List.eq_nil_of_length_eq_zero hq])]
      exact efr_empty a1 a2 c1 c2 w
    · obtain ⟨f1, e1, rfl, g1⟩ := h1 (by omega)
      obtain ⟨f2, e2, rfl, g2⟩ := h2 (by omega)
      exact efr_some f1 e1 f2 e2 n1 c1 c2 p q w hp hq (by omega) (fun s hs2 => by have := sumR_in p s hs2; omega) g1 g2
  · rw [decide_eq_false (fun e => hl (by rw [← hp, ← hq, e]))]
    exact efr_len a1 a2 n1 n2 c1 c2 w hl
set_option maxHeartbeats 3200000 in
theorem same_plain (o1 : Int) (pa1 : Option Addr) (pn1 pc1 : Nat) (nx1 : Nat) (md1 pf1 : Int) (ca1 : Option Addr) (cn1 cc1 : Nat) (ra1 : Option Addr) (rn1 rc1 : Nat) (o2 : Int) (pa2 : Option Addr) (pn2 pc2 : Nat) (nx2 : Nat) (md2 pf2 : Int) (ca2 : Option Addr) (cn2 cc2 : Nat) (ra2 : Option Addr) (rn2 rc2 : Nat) (bp bc br : Bool) (w : World)
    (KP : Hid (∀ w1, Below w.heap.size w w1 → Calls Tryd.prog 64 #[.slice pa1 pn1 pc1, .slice pa2 pn2 pc2, .func (.func 65) #[] #[]] w1 fun e w' => e = .returned (.bool bp) ∧ Below w1.heap.size w1 w'))
    (KC : Hid (∀ w1, Below w.heap.size w w1 → Calls Tryd.prog 66 #[.slice ca1 cn1 cc1, .slice ca2 cn2 cc2] w1 fun e w' => e = .returned (.bool bc) ∧ ∃ m, w' = w1.drewN m))
    (KR : Hid (∀ w1, Below w.heap.size w w1 → Calls Tryd.prog 67 #[.slice ra1 rn1 rc1, .slice ra2 rn2 rc2, .func (.func 68) #[] #[]] w1 fun e w' => e = .returned (.bool br) ∧ Below w1.heap.size w1 w')) :
    Calls Tryd.prog 54 #[.agg #[.int .i64 o1, .slice pa1 pn1 pc1, .int .u32 (nx1 : Int), .int .i64 md1, .int .i64 pf1, .slice ca1 cn1 cc1, .slice ra1 rn1 rc1], .agg #[.int .i64 o2, .slice pa2 pn2 pc2, .int .u32 (nx2 : Int), .int .i64 md2, .int .i64 pf2, .slice ca2 cn2 cc2, .slice ra2 rn2 rc2]] w fun e w' => e = .returned (.bool (decide (o1 = o2) && decide ((nx1 : Int) = (nx2 : Int)) && decide (md1 = md2) && decide (pf1 = pf2) && bp && bc && br)) ∧ Below w.heap.size w w' := by
  have hbb : Below w.heap.size w ((w.alloc (.cells #[.int .i64 o1, .slice pa1 pn1 pc1, .int .u32 (nx1 : Int), .int .i64 md1, .int .i64 pf1, .slice ca1 cn1 cc1, .slice ra1 rn1 rc1] 34)).alloc (.cells #[.int .i64 o2, .slice pa2 pn2 pc2, .int .u32 (nx2 : Int), .int .i64 md2, .int .i64 pf2, .slice ca2 cn2 cc2, .slice ra2 rn2 rc2] 34)) := ((Below.refl _ _).alloc (Nat.le_refl _) _).alloc (by simp) _
  have HBB := hide hbb
  clear hbb
  have k1 : (o1 == o2) = decide (o1 = o2) := rfl
  have k2 : ((nx1 : Int) == (nx2 : Int)) = decide ((nx1 : Int) = (nx2 : Int)) := rfl
  have k3 : (md1 == md2) = decide (md1 = md2) := rfl
  have k4 : (pf1 == pf2) = decide (pf1 = pf2) := rfl
  generalize decide (o1 = o2) = b1 at *
  generalize decide ((nx1 : Int) = (nx2 : Int)) = b2 at *
  generalize decide (md1 = md2) = b3 at *
  generalize decide (pf1 = pf2) = b4 at *
  go_enter Tryd.func54, Tryd.ntmps54
  cases b1 with
  | false => go_wp2; go_ret; exact ⟨by simp, HBB.out⟩
  | true =>
  cases b2 with
  | false => go_wp2; go_ret; exact ⟨by simp, HBB.out⟩
  | true =>
  cases b3 with
  | false => go_wp2; go_ret; exact ⟨by simp, HBB.out⟩
  | true =>
  cases b4 with
  | false => go_wp2; go_ret; exact ⟨by simp, HBB.out⟩
  | true =>
    go_wp2_with fail
    refine (KP.out _ HBB.out).mono ?_
    rintro e w1 ⟨rfl, hb1⟩
    have q5 : w1.cell? ⟨w.heap.size, 5, none⟩ = some (.slice ca1 cn1 cc1) := by rw [hb1.cell (p := ⟨w.heap.size, 5, none⟩) (by simp; omega)]; simp [go_sem]
    have r5 : w1.cell? ⟨w.heap.size + 1, 5, none⟩ = some (.slice ca2 cn2 cc2) := by rw [hb1.cell (p := ⟨w.heap.size + 1, 5, none⟩) (by simp)]; simp [go_sem]
    have q6 : w1.cell? ⟨w.heap.size, 6, none⟩ = some (.slice ra1 rn1 rc1) := by rw [hb1.cell (p := ⟨w.heap.size, 6, none⟩) (by simp; omega)]; simp [go_sem]
    have r6 : w1.cell? ⟨w.heap.size + 1, 6, none⟩ = some (.slice ra2 rn2 rc2) := by rw [hb1.cell (p := ⟨w.heap.size + 1, 6, none⟩) (by simp)]; simp [go_sem]
    have HB1 : Hid (Below w.heap.size w w1) := HBB.out.trans (hb1.mono HBB.out.size)
    clear hb1 KP HBB
    cases bp with
    | false => go_wp2; go_ret; exact ⟨by simp, HB1.out⟩
    | true =>
      go_wp2_with fail
      refine (KC.out _ HB1.out).mono ?_
      rintro e w2 ⟨rfl, m, hm⟩
      have s6 : w2.cell? ⟨w.heap.size, 6, none⟩ = some (.slice ra1 rn1 rc1) := by rw [hm, cell_drewN]; exact q6
      have t6 : w2.cell? ⟨w.heap.size + 1, 6, none⟩ = some (.slice ra2 rn2 rc2) := by rw [hm, cell_drewN]; exact r6
      have HB2 : Hid (Below w.heap.size w w2) := by show Below _ _ _; rw [hm]; exact below_drewN HB1.out m
      clear hm KC HB1 q5 r5 q6 r6
      cases bc with
      | false => go_wp2; go_ret; exact ⟨by simp, HB2.out⟩
      | true =>
        go_wp2_with fail
        refine (KR.out _ HB2.out).mono ?_
        rintro e w3 ⟨rfl, hb3⟩
        have HB3 : Hid (Below w.heap.size w w3) := HB2.out.trans (hb3.mono HB2.out.size)
        clear hb3 KR HB2
        go_wp2
        go_ret
        exact ⟨by simp, HB3.out⟩
theorem eqA_parts (a b : At) : (decide (a.origin = b.origin) && decide ((a.next : Int) = (b.next : Int)) && decide (a.med = b.med) && decide (a.pref = b.pref) && decide (a.path = b.path) && decide (a.comms = b.comms) && decide (a.raws = b.raws)) = eqA a b := by
  unfold eqA eqHead eqP
  rw [Bool.eq_iff_iff]
  simp only [Bool.and_eq_true, decide_eq_true_eq]
  constructor
  · rintro ⟨⟨⟨⟨⟨⟨h1, h2⟩, h3⟩, h4⟩, h5⟩, h6⟩, h7⟩
    exact ⟨⟨⟨⟨⟨⟨⟨⟨h1, h5⟩, by omega⟩, h3⟩, h4⟩, by rw [h6]⟩, by rw [h7]⟩, h6⟩, h7⟩
  · rintro ⟨⟨⟨⟨⟨⟨⟨⟨h1, h5⟩, h2⟩, h3⟩, h4⟩, _⟩, _⟩, h6⟩, h7⟩
    exact ⟨⟨⟨⟨⟨⟨h1, by rw [h2]⟩, h3⟩, h4⟩, h5⟩, h6⟩, h7⟩
theorem psame_any (pa1 ca1 ra1 pa2 ca2 ra2 : Option Addr) (pc1 cc1 rc1 pc2 cc2 rc2 : Nat) (a b : At) (w : World) (hl : sizeA a ≤ 100000) (h1 : AtRd w pa1 ca1 ra1 a) (h2 : AtRd w pa2 ca2 ra2 b) :
    Calls Tryd.prog 54 #[atV pa1 pc1 ca1 cc1 ra1 rc1 a, atV pa2 pc2 ca2 cc2 ra2 rc2 b] w fun e w' => e = .returned (.bool (eqA a b)) ∧ Below w.heap.size w w' := by
  rw [← eqA_parts]
  unfold sizeA at hl
  exact same_plain a.origin pa1 _ pc1 a.next a.med a.pref ca1 _ cc1 ra1 _ rc1 b.origin pa2 _ pc2 b.next b.med b.pref ca2 _ cc2 ra2 _ rc2 _ _ _ w
    (fun w1 hb => efs_any pa1 pa2 pc1 pc2 _ _ a.path b.path w1 rfl rfl (by omega) (h1.path.below hb) (h2.path.below hb))
    (fun w1 hb => peq_u32s ca1 ca2 cc1 cc2 _ _ a.comms b.comms w1 rfl rfl (by omega) (h1.comms.below hb) (h2.comms.below hb))
    (fun w1 hb => efr_any ra1 ra2 rc1 rc2 _ _ a.raws b.raws w1 rfl rfl (by omega) (h1.raws.below hb) (h2.raws.below hb))
end Go.Proofs.YthigjonagbfbbaaDoor
