/- bytes.Equal; slices.Equal of numbers. -/
import Derived.Test.YtnblkgffgbiemaaPthSm
import Derived.Test.YtnblkgffgbiemaaAtP
namespace Go.Proofs.Ytnblkgffgbiemaa
open Go.RowKit
set_option maxRecDepth 100000

/-- The bytes as a string has them. -/
def strB (bs : List Nat) : List UInt8 := bs.map fun x => UInt8.ofNat x
theorem strB_length (bs : List Nat) : (strB bs).length = bs.length := by simp [strB]
theorem run_strB (w : World) (a : Option Addr) (c : Nat) (bs : List Nat) (h : BRd w a bs) :
    (convert 45 9 (.slice a bs.length c)).run Try.prog w = .ok (.string ⟨(strB bs).toArray⟩) w := by
  have key : ∀ ad : Addr, (∀ (j x : Nat), bs[j]? = some x → w.cell? (ad.add j) = some (.int .u8 (x : Int))) → (convert 45 9 (.slice (some ad) bs.length c)).run Try.prog w = .ok (.string ⟨(strB bs).toArray⟩) w := fun ad hc => by
    have := run_convert_bytes_back (P := Try.prog) w 45 9 5 ad c (strB bs) Try.underlying45 Try.underlying5 Try.underlying9 (fun j hj => by
      have hj2 : j < bs.length := by rwa [strB_length] at hj
      rw [hc j _ (List.getElem?_eq_getElem hj2)]
      have e : (strB bs)[j].toNat = bs[j] := by
        simp only [strB, List.getElem_map, UInt8.toNat_ofNat']
        exact Nat.mod_eq_of_lt (h.2 _ (List.getElem_mem hj2))
      rw [e])
    rwa [strB_length] at this
  by_cases h0 : bs = []
  · subst h0
    cases a with
    | none => exact run_convert_bytes_nil w 45 5 Try.underlying45 Try.underlying5 0 c 9 Try.underlying9
    | some ad => exact key ad (fun j x hj => by simp at hj)
  · obtain ⟨_, h2⟩ := h.1
    obtain ⟨b, off, rfl, hc⟩ := h2 (List.length_pos_iff.2 h0)
    refine key _ (fun j x hj => ?_)
    have hj2 := (List.getElem?_eq_some_iff.1 hj).1
    have : w.cell? ⟨b, off + j, none⟩ = some (.int .u8 ((bs.getD j 0 : Nat) : Int)) := hc j hj2
    rw [List.getD_eq_getElem?_getD, hj] at this
    rw [Addr.add_mid]
    exact this
theorem strB_eq (xs ys : List Nat) (hx : ∀ x ∈ xs, x < 256) (hy : ∀ x ∈ ys, x < 256) : (strB xs == strB ys) = decide (xs = ys) := by
  rw [Bool.eq_iff_iff, beq_iff_eq, decide_eq_true_eq]
  refine ⟨fun e => ?_, fun e => by rw [e]⟩
  have hl : xs.length = ys.length := by rw [← strB_length, e, strB_length]
  apply List.ext_getElem hl
  intro i h1 h2
  have e3 := congrArg (fun l => l[i]?) e
  simp only [strB, List.getElem?_map, List.getElem?_eq_getElem h1, List.getElem?_eq_getElem h2, Option.map_some, Option.some.injEq] at e3
  have e4 := congrArg UInt8.toNat e3
  rw [UInt8.toNat_ofNat', UInt8.toNat_ofNat', Nat.mod_eq_of_lt (hx _ (List.getElem_mem h1)), Nat.mod_eq_of_lt (hy _ (List.getElem_mem h2))] at e4
  exact e4
set_option maxHeartbeats 400000 in
theorem peq_bytes (a1 a2 : Option Addr) (c1 c2 n1 n2 : Nat) (xs ys : List Nat) (w : World) (e1 : xs.length = n1) (e2 : ys.length = n2) (h1 : BRd w a1 xs) (h2 : BRd w a2 ys) :
    Calls Try.prog 48 #[.slice a1 n1 c1, .slice a2 n2 c2] w fun e w' => e = .returned (.bool (decide (xs = ys))) ∧ w' = w := by
  subst e1 e2
  have k1 := run_strB w a1 c1 xs h1
  have k2 := run_strB w a2 c2 ys h2
  have HE := hide (strB_eq xs ys h1.2 h2.2)
  clear h1 h2
  generalize strB xs = sf at *
  generalize strB ys = sg at *
  generalize xs.length = n1 at *
  generalize ys.length = n2 at *
  go_enter Try.func48, Try.ntmps48
  go_wp2
  go_ret
  exact ⟨ret_bool HE.out, rfl⟩
set_option maxHeartbeats 400000 in
theorem peq_ints_len (a1 a2 : Option Addr) (n1 n2 c1 c2 : Nat) (w : World) (h : n1 ≠ n2) : Calls Try.prog 47 #[.slice a1 n1 c1, .slice a2 n2 c2] w fun e w' => e = .returned (.bool false) ∧ ∃ m, w' = w.drewN m := by
  have e0 : ((n1 : Int) != (n2 : Int)) = true := by simp; omega
  clear h
  go_enter Try.func47, Try.ntmps47
  go_wp2
  go_ret
  exact ⟨rfl, 0, rfl⟩
set_option maxHeartbeats 400000 in
theorem peq_ints_empty (a1 a2 : Option Addr) (c1 c2 : Nat) (w : World) : Calls Try.prog 47 #[.slice a1 0 c1, .slice a2 0 c2] w fun e w' => e = .returned (.bool true) ∧ ∃ m, w' = w.drewN m := by
  go_enter Try.func47, Try.ntmps47
  go_wp2
  go_loopw [13] (fun i wq => i = .int .i64 0 ∧ wq = w) (fun i _ => 0 - (intOf i).toNat)
  case atStart => exact ⟨rfl, rfl⟩
  case round =>
    obtain ⟨rfl, rfl⟩ := hrel
    go_wp2
    go_ret
    exact ⟨rfl, 0, rfl⟩
set_option maxHeartbeats 1600000 in
theorem peq_ints_some (f1 e1 f2 e2 l c1 c2 : Nat) (zs ys : List Int) (w : World) (hz : zs.length = l) (hy : ys.length = l) (hb : l ≤ 100000)
    (hz1 : ∀ (j : Nat) (z : Int), zs[j]? = some z → w.cell? ⟨f1, e1 + j, none⟩ = some (.int .i64 z)) (hz2 : ∀ (j : Nat) (z : Int), ys[j]? = some z → w.cell? ⟨f2, e2 + j, none⟩ = some (.int .i64 z)) :
    Calls Try.prog 47 #[.slice (some ⟨f1, e1, none⟩) l c1, .slice (some ⟨f2, e2, none⟩) l c2] w fun e w' => e = .returned (.bool (decide (zs = ys))) ∧ ∃ m, w' = w.drewN m := by
  have H1 := hide hz1
  have H2 := hide hz2
  have HL := hide hz
  have HLL := hide hy
  clear hz1 hz2 hz hy
  go_enter Try.func47, Try.ntmps47
  go_wp2
  go_loopw [13] (fun i wq => ∃ j m : Nat, j ≤ l ∧ i = .int .i64 j ∧ Hid (wq = w.drewN m) ∧ Hid (zs.take j = ys.take j)) (fun i _ => l - (intOf i).toNat)
  case atStart => exact ⟨0, 0, Nat.zero_le _, rfl, rfl, rfl⟩
  case round =>
    obtain ⟨j, m2, hj, rfl, HW2, HJ⟩ := hrel
    by_cases hlj : j < l
    · have hjz : j < zs.length := by rw [HL.out]; exact hlj
      have hjy : j < ys.length := by rw [HLL.out]; exact hlj
      have cz := H1.out j _ (List.getElem?_eq_getElem hjz)
      have cy := H2.out j _ (List.getElem?_eq_getElem hjy)
      rw [← cell_drewN _ m2, ← HW2.out] at cz cy
      have HJN : Hid (zs[j] ≠ ys[j] → decide (zs = ys) = false) := fun h => decide_eq_false (fun e => h (by subst e; rfl))
      have HJT : Hid (zs[j] = ys[j] → zs.take (j + 1) = ys.take (j + 1)) := fun h => by rw [List.take_succ_eq_append_getElem hjz, List.take_succ_eq_append_getElem hjy, HJ.out, h]
      generalize zs[j] = z at *
      generalize ys[j] = y at *
      have hj0 : (0 : Int) ≤ (j : Int) := Int.natCast_nonneg _
      have hj1 : (j : Int) < (l : Int) := by omega
      by_cases hzy : z = y
      · have HJ2 := hide (HJT.out hzy)
        subst hzy
        go_wp2_with fail
        go_quiet (fail)
        go_wp2
        exact ⟨⟨j + 1, m2 + nq, by omega, by go_num, show wr.drewN nq = _ by rw [HW2.out, drewN_more], HJ2⟩, by simp [intOf]; omega⟩
      · have HG := hide (HJN.out hzy)
        have ez : ((z : Int) != (y : Int)) = true := by rw [bne_iff_ne]; omega
        clear hzy
        go_wp2_with fail
        go_quiet (fail)
        go_wp2
        go_ret
        exact ⟨ret_bool HG.out.symm, m2 + nq, show wr.drewN nq = _ by rw [HW2.out, drewN_more]⟩
    · have HT2 : Hid (decide (zs = ys) = true) := decide_eq_true (by
        have := HJ.out
        rw [List.take_of_length_le (by rw [HL.out]; omega), List.take_of_length_le (by rw [HLL.out]; omega)] at this
        exact this)
      go_wp2
      go_ret
      exact ⟨ret_bool HT2.out.symm, m2, HW2.out⟩
theorem peq_ints (a1 a2 : Option Addr) (c1 c2 n1 n2 : Nat) (zs ys : List Int) (w : World) (hz : zs.length = n1) (hy : ys.length = n2) (hb : n1 ≤ 100000) (h1 : IRd w a1 zs) (h2 : IRd w a2 ys) :
    Calls Try.prog 47 #[.slice a1 n1 c1, .slice a2 n2 c2] w fun e w' => e = .returned (.bool (decide (zs = ys))) ∧ ∃ m, w' = w.drewN m := by
  by_cases hl : n1 = n2
  · subst hl
    by_cases h0 : n1 = 0
    · subst h0
      rw [decide_eq_true (by rw [List.eq_nil_of_length_eq_zero hz, List.eq_nil_of_length_eq_zero hy])]
      exact peq_ints_empty a1 a2 c1 c2 w
    · obtain ⟨f1, e1, rfl, g1⟩ := h1 (by omega)
      obtain ⟨f2, e2, rfl, g2⟩ := h2 (by omega)
      exact peq_ints_some f1 e1 f2 e2 n1 c1 c2 zs ys w hz hy hb g1 g2
  · rw [decide_eq_false (fun e => hl (by rw [← hz, ← hy, e]))]
    exact peq_ints_len a1 a2 n1 n2 c1 c2 w hl
set_option maxHeartbeats 400000 in
theorem peq_u32s_len (a1 a2 : Option Addr) (n1 n2 c1 c2 : Nat) (w : World) (h : n1 ≠ n2) : Calls Try.prog 37 #[.slice a1 n1 c1, .slice a2 n2 c2] w fun e w' => e = .returned (.bool false) ∧ ∃ m, w' = w.drewN m := by
  have e0 : ((n1 : Int) != (n2 : Int)) = true := by simp; omega
  clear h
  go_enter Try.func37, Try.ntmps37
  go_wp2
  go_ret
  exact ⟨rfl, 0, rfl⟩
set_option maxHeartbeats 400000 in
theorem peq_u32s_empty (a1 a2 : Option Addr) (c1 c2 : Nat) (w : World) : Calls Try.prog 37 #[.slice a1 0 c1, .slice a2 0 c2] w fun e w' => e = .returned (.bool true) ∧ ∃ m, w' = w.drewN m := by
  go_enter Try.func37, Try.ntmps37
  go_wp2
  go_loopw [13] (fun i wq => i = .int .i64 0 ∧ wq = w) (fun i _ => 0 - (intOf i).toNat)
  case atStart => exact ⟨rfl, rfl⟩
  case round =>
    obtain ⟨rfl, rfl⟩ := hrel
    go_wp2
    go_ret
    exact ⟨rfl, 0, rfl⟩
set_option maxHeartbeats 1600000 in
theorem peq_u32s_some (f1 e1 f2 e2 l c1 c2 : Nat) (zs ys : List Nat) (w : World) (hz : zs.length = l) (hy : ys.length = l) (hb : l ≤ 100000)
    (hz1 : ∀ (j : Nat) (z : Nat), zs[j]? = some z → w.cell? ⟨f1, e1 + j, none⟩ = some (.int .u32 (z : Int))) (hz2 : ∀ (j : Nat) (z : Nat), ys[j]? = some z → w.cell? ⟨f2, e2 + j, none⟩ = some (.int .u32 (z : Int))) :
    Calls Try.prog 37 #[.slice (some ⟨f1, e1, none⟩) l c1, .slice (some ⟨f2, e2, none⟩) l c2] w fun e w' => e = .returned (.bool (decide (zs = ys))) ∧ ∃ m, w' = w.drewN m := by
  have H1 := hide hz1
  have H2 := hide hz2
  have HL := hide hz
  have HLL := hide hy
  clear hz1 hz2 hz hy
  go_enter Try.func37, Try.ntmps37
  go_wp2
  go_loopw [13] (fun i wq => ∃ j m : Nat, j ≤ l ∧ i = .int .i64 j ∧ Hid (wq = w.drewN m) ∧ Hid (zs.take j = ys.take j)) (fun i _ => l - (intOf i).toNat)
  case atStart => exact ⟨0, 0, Nat.zero_le _, rfl, rfl, rfl⟩
  case round =>
    obtain ⟨j, m2, hj, rfl, HW2, HJ⟩ := hrel
    by_cases hlj : j < l
    · have hjz : j < zs.length := by rw [HL.out]; exact hlj
      have hjy : j < ys.length := by rw [HLL.out]; exact hlj
      have cz := H1.out j _ (List.getElem?_eq_getElem hjz)
      have cy := H2.out j _ (List.getElem?_eq_getElem hjy)
      rw [← cell_drewN _ m2, ← HW2.out] at cz cy
      have HJN : Hid (zs[j] ≠ ys[j] → decide (zs = ys) = false) := fun h => decide_eq_false (fun e => h (by subst e; rfl))
      have HJT : Hid (zs[j] = ys[j] → zs.take (j + 1) = ys.take (j + 1)) := fun h => by rw [List.take_succ_eq_append_getElem hjz, List.take_succ_eq_append_getElem hjy, HJ.out, h]
      generalize zs[j] = z at *
      generalize ys[j] = y at *
      have hj0 : (0 : Int) ≤ (j : Int) := Int.natCast_nonneg _
      have hj1 : (j : Int) < (l : Int) := by omega
      by_cases hzy : z = y
      · have HJ2 := hide (HJT.out hzy)
        subst hzy
        go_wp2_with fail
        go_quiet (fail)
        go_wp2
        exact ⟨⟨j + 1, m2 + nq, by omega, by go_num, show wr.drewN nq = _ by rw [HW2.out, drewN_more], HJ2⟩, by simp [intOf]; omega⟩
      · have HG := hide (HJN.out hzy)
        have ez : ((z : Int) != (y : Int)) = true := by rw [bne_iff_ne]; omega
        clear hzy
        go_wp2_with fail
        go_quiet (fail)
        go_wp2
        go_ret
        exact ⟨ret_bool HG.out.symm, m2 + nq, show wr.drewN nq = _ by rw [HW2.out, drewN_more]⟩
    · have HT2 : Hid (decide (zs = ys) = true) := decide_eq_true (by
        have := HJ.out
        rw [List.take_of_length_le (by rw [HL.out]; omega), List.take_of_length_le (by rw [HLL.out]; omega)] at this
        exact this)
      go_wp2
      go_ret
      exact ⟨ret_bool HT2.out.symm, m2, HW2.out⟩
theorem peq_u32s (a1 a2 : Option Addr) (c1 c2 n1 n2 : Nat) (zs ys : List Nat) (w : World) (hz : zs.length = n1) (hy : ys.length = n2) (hb : n1 ≤ 100000) (h1 : CRd w a1 zs) (h2 : CRd w a2 ys) :
    Calls Try.prog 37 #[.slice a1 n1 c1, .slice a2 n2 c2] w fun e w' => e = .returned (.bool (decide (zs = ys))) ∧ ∃ m, w' = w.drewN m := by
  by_cases hl : n1 = n2
  · subst hl
    by_cases h0 : n1 = 0
    · subst h0
      rw [decide_eq_true (by rw [List.eq_nil_of_length_eq_zero hz, List.eq_nil_of_length_eq_zero hy])]
      exact peq_u32s_empty a1 a2 c1 c2 w
    · obtain ⟨f1, e1, rfl, g1⟩ := h1 (by omega)
      obtain ⟨f2, e2, rfl, g2⟩ := h2 (by omega)
      exact peq_u32s_some f1 e1 f2 e2 n1 c1 c2 zs ys w hz hy hb g1 g2
  · rw [decide_eq_false (fun e => hl (by rw [← hz, ← hy, e]))]
    exact peq_u32s_len a1 a2 n1 n2 c1 c2 w hl
end Go.Proofs.Ytnblkgffgbiemaa
