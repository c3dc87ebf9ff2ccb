/- The program's isRaw, areRaws. -/
import Derived.Test.YthigjonagbfbbaaDoorAtQ
import Derived.Test.YthigjonagbfbbaaDoorKAm
import Derived.Test.YthigjonagbfbbaaDoorKAv
namespace Go.Proofs.YthigjonagbfbbaaDoor
open Go.RowKit
set_option maxRecDepth 100000

/-- May it be a Raw? -/
def rawB (f t : Int) (n : Nat) : Bool := decide (t = 6 ∧ f = 64 ∧ n = 0 ∨ t = 7 ∧ f = 192 ∧ n = 8 ∨ 8 < t ∧ t ≤ 255 ∧ f = 224 ∧ n ≤ 255)
set_option maxHeartbeats 1600000 in
theorem isRaw_6 (f : Int) (a : Option Addr) (n c : Nat) (w : World) (hS : Said w) (hn : n ≤ 1000000) :
    Calls Tryd.prog 63 #[.agg #[.int .i64 f, .int .i64 6, .slice a n c]] w fun e w' => e = .returned (.bool (decide (f = 64) && fitsB 6 n)) ∧ Below w.heap.size w w' := by
  obtain ⟨c0, _, _, _⟩ := hS.at 6 (by omega) (by omega)
  have hp := hS.pos
  have hba : Below w.heap.size w (w.alloc (.cells #[.int .i64 f, .int .i64 6, .slice a n c] 73)) := (Below.refl _ _).alloc (Nat.le_refl _) _
  have KF : Hid (∀ x : Later (w.alloc (.cells #[.int .i64 f, .int .i64 6, .slice a n c] 73)), Calls Tryd.prog 79 #[.int .i64 6, .int .i64 (n : Int)] x.w fun e w' => e = .returned (.bool (fitsB 6 n)) ∧ ∃ y : Later (w.alloc (.cells #[.int .i64 f, .int .i64 6, .slice a n c] 73)), w' = y.w) := fun x => calls_same x (fits_any 6 n x.w (hS.below (hba.trans (x.h.mono hba.size))) (by omega) (by omega) hn)
  have x0 : ∀ x : Later (w.alloc (.cells #[.int .i64 f, .int .i64 6, .slice a n c] 73)), x.w.cell? ⟨w.heap.size, 0, none⟩ = some (.int .i64 f) := fun x => x.cell (by simp [go_sem])
  have x1 : ∀ x : Later (w.alloc (.cells #[.int .i64 f, .int .i64 6, .slice a n c] 73)), x.w.cell? ⟨w.heap.size, 1, none⟩ = some (.int .i64 6) := fun x => x.cell (by simp [go_sem])
  have x2 : ∀ x : Later (w.alloc (.cells #[.int .i64 f, .int .i64 6, .slice a n c] 73)), x.w.cell? ⟨w.heap.size, 2, none⟩ = some (.slice a n c) := fun x => x.cell (by simp [go_sem])
  have xs : ∀ x : Later (w.alloc (.cells #[.int .i64 f, .int .i64 6, .slice a n c] 73)), x.w.cell? ⟨0, 24, none⟩ = some (.int .i64 64) := fun x => by
    rw [(hba.trans (x.h.mono hba.size)).cell (p := ⟨0, 24, none⟩) (by exact hp)]; exact c0
  have hne := later_some (w.alloc (.cells #[.int .i64 f, .int .i64 6, .slice a n c] 73))
  have HBA := hide hba
  generalize fitsB 6 n = fb at *
  clear hS c0 hba
  by_cases hf : f = 64
  · rw [decide_eq_true hf, Bool.true_and]
    have e1 : (f == 64) = true := by simp [hf]
    clear hf
    go_enter Tryd.func63, Tryd.ntmps63
    go_wp2_with fail
    refine region_later (by kernel_rfl) (by kernel_rfl) ?_
    repeat (go_big_quiet_step (first | (go_at_call 79; with_reducible exact KF.out _)))
    refine wpQuiet_nil ?_
    rintro _ ⟨xq, rfl⟩
    have HB := hide (HBA.out.trans (xq.h.mono HBA.out.size))
    go_wp2
    go_ret
    exact ⟨rfl, HB.out⟩
  · rw [decide_eq_false hf, Bool.false_and]
    have e1 : (f == 64) = false := by simpa using hf
    go_enter Tryd.func63, Tryd.ntmps63
    go_wp2_with fail
    refine region_later (by kernel_rfl) (by kernel_rfl) ?_
    repeat (go_big_quiet_step (fail))
    refine wpQuiet_nil ?_
    rintro _ ⟨xq, rfl⟩
    have HB := hide (HBA.out.trans (xq.h.mono HBA.out.size))
    go_wp2
    go_ret
    exact ⟨rfl, HB.out⟩
set_option maxHeartbeats 1600000 in
theorem isRaw_7 (f : Int) (a : Option Addr) (n c : Nat) (w : World) (hS : Said w) (hn : n ≤ 1000000) :
    Calls Tryd.prog 63 #[.agg #[.int .i64 f, .int .i64 7, .slice a n c]] w fun e w' => e = .returned (.bool (decide (f = 192) && fitsB 7 n)) ∧ Below w.heap.size w w' := by
  obtain ⟨c0, _, _, _⟩ := hS.at 7 (by omega) (by omega)
  have hp := hS.pos
  have hba : Below w.heap.size w (w.alloc (.cells #[.int .i64 f, .int .i64 7, .slice a n c] 73)) := (Below.refl _ _).alloc (Nat.le_refl _) _
  have KF : Hid (∀ x : Later (w.alloc (.cells #[.int .i64 f, .int .i64 7, .slice a n c] 73)), Calls Tryd.prog 79 #[.int .i64 7, .int .i64 (n : Int)] x.w fun e w' => e = .returned (.bool (fitsB 7 n)) ∧ ∃ y : Later (w.alloc (.cells #[.int .i64 f, .int .i64 7, .slice a n c] 73)), w' = y.w) := fun x => calls_same x (fits_any 7 n x.w (hS.below (hba.trans (x.h.mono hba.size))) (by omega) (by omega) hn)
  have x0 : ∀ x : Later (w.alloc (.cells #[.int .i64 f, .int .i64 7, .slice a n c] 73)), x.w.cell? ⟨w.heap.size, 0, none⟩ = some (.int .i64 f) := fun x => x.cell (by simp [go_sem])
  have x1 : ∀ x : Later (w.alloc (.cells #[.int .i64 f, .int .i64 7, .slice a n c] 73)), x.w.cell? ⟨w.heap.size, 1, none⟩ = some (.int .i64 7) := fun x => x.cell (by simp [go_sem])
  have x2 : ∀ x : Later (w.alloc (.cells #[.int .i64 f, .int .i64 7, .slice a n c] 73)), x.w.cell? ⟨w.heap.size, 2, none⟩ = some (.slice a n c) := fun x => x.cell (by simp [go_sem])
  have xs : ∀ x : Later (w.alloc (.cells #[.int .i64 f, .int .i64 7, .slice a n c] 73)), x.w.cell? ⟨0, 28, none⟩ = some (.int .i64 192) := fun x => by
    rw [(hba.trans (x.h.mono hba.size)).cell (p := ⟨0, 28, none⟩) (by exact hp)]; exact c0
  have hne := later_some (w.alloc (.cells #[.int .i64 f, .int .i64 7, .slice a n c] 73))
  have HBA := hide hba
  generalize fitsB 7 n = fb at *
  clear hS c0 hba
  by_cases hf : f = 192
  · rw [decide_eq_true hf, Bool.true_and]
    have e1 : (f == 192) = true := by simp [hf]
    clear hf
    go_enter Tryd.func63, Tryd.ntmps63
    go_wp2_with fail
    refine region_later (by kernel_rfl) (by kernel_rfl) ?_
    repeat (go_big_quiet_step (first | (go_at_call 79; with_reducible exact KF.out _)))
    refine wpQuiet_nil ?_
    rintro _ ⟨xq, rfl⟩
    have HB := hide (HBA.out.trans (xq.h.mono HBA.out.size))
    go_wp2
    go_ret
    exact ⟨rfl, HB.out⟩
  · rw [decide_eq_false hf, Bool.false_and]
    have e1 : (f == 192) = false := by simpa using hf
    go_enter Tryd.func63, Tryd.ntmps63
    go_wp2_with fail
    refine region_later (by kernel_rfl) (by kernel_rfl) ?_
    repeat (go_big_quiet_step (fail))
    refine wpQuiet_nil ?_
    rintro _ ⟨xq, rfl⟩
    have HB := hide (HBA.out.trans (xq.h.mono HBA.out.size))
    go_wp2
    go_ret
    exact ⟨rfl, HB.out⟩
set_option maxHeartbeats 1600000 in
theorem isRaw_more (f t : Int) (ht : ¬ t = 6 ∧ ¬ t = 7) (a : Option Addr) (n c : Nat) (w : World) :
    Calls Tryd.prog 63 #[.agg #[.int .i64 f, .int .i64 t, .slice a n c]] w fun e w' => e = .returned (.bool (decide (8 < t ∧ t ≤ 255 ∧ f = 224 ∧ n ≤ 255))) ∧ Below w.heap.size w w' := by
  have e6 : (t == 6) = false := by simpa using ht.1
  have e7 : (t == 7) = false := by simpa using ht.2
  have HB : Hid (Below w.heap.size w (w.alloc (.cells #[.int .i64 f, .int .i64 t, .slice a n c] 73))) := (Below.refl _ _).alloc (Nat.le_refl _) _
  by_cases h1 : 8 < t
  · by_cases h2 : t ≤ 255
    · by_cases h3 : f = 224
      · have HD : Hid (decide (8 < t ∧ t ≤ 255 ∧ f = 224 ∧ n ≤ 255) = decide ((n : Int) ≤ 255)) := by show decide _ = _; rw [Bool.eq_iff_iff]; simp only [decide_eq_true_eq]; omega
        rw [HD.out]
        have d1 : decide (8 < t) = true := decide_eq_true h1
        have d2 : decide (t ≤ 255) = true := decide_eq_true h2
        have d3 : (f == 224) = true := by simpa using h3
        clear h1 h2 h3 ht HD
        go_enter Tryd.func63, Tryd.ntmps63
        go_wp2
        go_ret
        exact ⟨rfl, HB.out⟩
      · have HD : Hid (decide (8 < t ∧ t ≤ 255 ∧ f = 224 ∧ n ≤ 255) = false) := by show decide _ = _; exact decide_eq_false (fun h9 => h3 h9.2.2.1)
        rw [HD.out]
        have d1 : decide (8 < t) = true := decide_eq_true h1
        have d2 : decide (t ≤ 255) = true := decide_eq_true h2
        have d3 : (f == 224) = false := by simpa using h3
        clear h1 h2 h3 ht HD
        go_enter Tryd.func63, Tryd.ntmps63
        go_wp2
        go_ret
        exact ⟨rfl, HB.out⟩
    · have HD : Hid (decide (8 < t ∧ t ≤ 255 ∧ f = 224 ∧ n ≤ 255) = false) := by show decide _ = _; exact decide_eq_false (fun h9 => h2 h9.2.1)
      rw [HD.out]
      have d1 : decide (8 < t) = true := decide_eq_true h1
      have d2 : decide (t ≤ 255) = false := decide_eq_false h2
      clear h1 h2 ht HD
      go_enter Tryd.func63, Tryd.ntmps63
      go_wp2
      go_ret
      exact ⟨rfl, HB.out⟩
  · have HD : Hid (decide (8 < t ∧ t ≤ 255 ∧ f = 224 ∧ n ≤ 255) = false) := by show decide _ = _; exact decide_eq_false (fun h9 => h1 h9.1)
    rw [HD.out]
    have d1 : decide (8 < t) = false := decide_eq_false h1
    clear h1 ht HD
    go_enter Tryd.func63, Tryd.ntmps63
    go_wp2
    go_ret
    exact ⟨rfl, HB.out⟩
theorem isRaw_any (f t : Int) (a : Option Addr) (n c : Nat) (w : World) (hS : Said w) (hn : n ≤ 1000000) :
    Calls Tryd.prog 63 #[.agg #[.int .i64 f, .int .i64 t, .slice a n c]] w fun e w' => e = .returned (.bool (rawB f t n)) ∧ Below w.heap.size w w' := by
  by_cases h6 : t = 6
  · subst h6
    have := isRaw_6 f a n c w hS hn
    have e : (decide (f = 64) && fitsB 6 n) = rawB f 6 n := by
      unfold rawB fitsB leastN mostN eachN
      rw [Bool.eq_iff_iff]
      simp
      omega
    rw [e] at this
    exact this
  · by_cases h7 : t = 7
    · subst h7
      have := isRaw_7 f a n c w hS hn
      have e : (decide (f = 192) && fitsB 7 n) = rawB f 7 n := by
        unfold rawB fitsB leastN mostN eachN
        rw [Bool.eq_iff_iff]
        simp
        omega
      rw [e] at this
      exact this
    · have := isRaw_more f t ⟨h6, h7⟩ a n c w
      have e : decide (8 < t ∧ t ≤ 255 ∧ f = 224 ∧ n ≤ 255) = rawB f t n := by
        unfold rawB
        rw [Bool.eq_iff_iff]
        simp only [decide_eq_true_eq]
        omega
      rw [e] at this
      exact this
end Go.Proofs.YthigjonagbfbbaaDoor
/- The program's areRaws, Good. -/
namespace Go.Proofs.YthigjonagbfbbaaDoor
open Go.RowKit
set_option maxRecDepth 100000

theorem rawK_B (r : Int × Int × List Nat) : rawK r = rawB r.1 r.2.1 r.2.2.length := rfl
/-- The type of the last one. -/
def lastT (rs : List (Int × Int × List Nat)) (k : Nat) : Int := if k = 0 then 0 else typAt rs (k - 1)
theorem rawsUp_step (rs : List (Int × Int × List Nat)) (k : Nat) (h : rawsUp rs k = true) : rawsUp rs (k + 1) = (decide (lastT rs k < typAt rs k) && rawK (rs.getD k (0, 0, []))) := by
  rw [rawsUp, h, Bool.true_and]
  unfold lastT
  by_cases h0 : k = 0
  · subst h0
    rw [if_pos rfl, decide_eq_true rfl, Bool.true_or, Bool.and_true]
    cases hk : rawK (rs.getD 0 (0, 0, [])) with
    | false => rw [Bool.and_false]
    | true =>
      have := of_decide_eq_true hk
      have e : typAt rs 0 = (rs.getD 0 (0, 0, [])).2.1 := rfl
      rw [Bool.and_true, eq_comm, decide_eq_true_eq, e]
      omega
  · rw [if_neg h0, decide_eq_false h0, Bool.false_or, Bool.and_comm]
set_option maxHeartbeats 1600000 in
theorem areRaws_some (b off n cap : Nat) (rs : List (Int × Int × List Nat)) (w : World) (hS : Said w) (hn : rs.length = n) (hl : n + sumR rs ≤ 100000) (hc : RawAt w b off rs) :
    Calls Tryd.prog 47 #[.slice (some ⟨b, off, none⟩) n cap] w fun e w' => e = .returned (.bool (rawsUp rs n)) ∧ Below w.heap.size w w' := by
  have HC := hide hc
  have HS := hide hS
  have HL := hide hn
  clear hc hn hS
  go_enter Tryd.func47, Tryd.ntmps47
  go_wp2
  go_loopw [3, 8] (fun z i wq => ∃ k : Nat, k ≤ n ∧ i = .int .i64 k ∧ z = .int .i64 (lastT rs k) ∧ Hid (rawsUp rs k = true) ∧ Hid (Below w.heap.size w wq)) (fun _ i _ => n - (intOf i).toNat)
  case atStart => exact ⟨0, Nat.zero_le _, rfl, rfl, rfl, Below.refl _ _⟩
  case round =>
    obtain ⟨k, hk, rfl, rfl, HU, HB⟩ := hrel
    by_cases hlt : k < n
    · have hkl : k < rs.length := by rw [HL.out]; exact hlt
      obtain ⟨e0, e1, a', c', e2, _, _⟩ := HC.out k _ (List.getElem?_eq_getElem hkl)
      have hd : rs.getD k (0, 0, []) = rs[k] := by rw [List.getD_eq_getElem?_getD, List.getElem?_eq_getElem hkl]; rfl
      have hst := rawsUp_step rs k HU.out
      have hty : typAt rs k = rs[k].2.1 := by unfold typAt; rw [hd]
      have hln : lastT rs (k + 1) = rs[k].2.1 := by unfold lastT; rw [if_neg (by omega), Nat.add_sub_cancel, hty]
      have hsr := sumR_mem rs rs[k] (List.getElem_mem hkl)
      rw [hd, hty, rawK_B] at hst
      have z0 := World.block_lt_of_cell? w _ e0
      simp only at z0
      rw [← HB.out.cell (p := ⟨b, off + k * 3, none⟩) z0] at e0
      rw [← HB.out.cell (p := ⟨b, off + k * 3 + 1, none⟩) z0] at e1
      rw [← HB.out.cell (p := ⟨b, off + k * 3 + 2, none⟩) z0] at e2
      have zz := World.block_lt_of_cell? wr _ e0
      simp only at zz
      have KR : Hid (∀ w1, Below wr.heap.size wr w1 → Calls Tryd.prog 63 #[.agg #[.int .i64 rs[k].1, .int .i64 rs[k].2.1, .slice a' rs[k].2.2.length c']] w1 fun e w' => e = .returned (.bool (rawB rs[k].1 rs[k].2.1 rs[k].2.2.length)) ∧ Below w1.heap.size w1 w') := fun w1 hb => isRaw_any _ _ a' _ c' w1 (HS.out.below (HB.out.trans (hb.mono HB.out.size))) (by omega)
      have HF : Hid (rawsUp rs (k + 1) = false → rawsUp rs n = false) := fun h9 => rawsUp_false h9 n (by omega)
      have HST := hide hst
      clear hst hty hd hsr
      generalize hq : lastT rs (k + 1) = q at *
      generalize rs[k].1 = f at *
      generalize rs[k].2.1 = t at *
      generalize rs[k].2.2.length = dn at *
      subst hln
      generalize lastT rs k = l at *
      have hk0 : (0 : Int) ≤ (k : Int) := Int.natCast_nonneg _
      have hk1 : (k : Int) < (n : Int) := by omega
      by_cases hle : q ≤ l
      · have HN : Hid (rawsUp rs n = false) := HF.out (by rw [HST.out, decide_eq_false (by omega), Bool.false_and])
        have HBW : Hid (Below w.heap.size w (wr.alloc (.cells #[.int .i64 f, .int .i64 q, .slice a' dn c'] 73))) := HB.out.alloc HB.out.size _
        clear HF HST KR
        go_wp2
        go_ret
        exact ⟨ret_bool HN.out.symm, HBW.out⟩
      · have dle : decide (q ≤ l) = false := decide_eq_false hle
        have HBW : Hid (Below wr.heap.size wr (wr.alloc (.cells #[.int .i64 f, .int .i64 q, .slice a' dn c'] 73))) := (Below.refl _ _).alloc (Nat.le_refl _) _
        have HS2 : Hid (rawsUp rs (k + 1) = rawB f q dn) := by show rawsUp rs (k + 1) = _; rw [HST.out, decide_eq_true (by omega), Bool.true_and]
        clear hle HST
        go_wp2_with fail
        refine (KR.out _ HBW.out).mono ?_
        cases hb : rawB f q dn with
        | false =>
          have HN : Hid (rawsUp rs n = false) := HF.out (by rw [HS2.out, hb])
          rintro e w2 ⟨rfl, hb2⟩
          have HB2 := hide (HB.out.trans ((HBW.out.trans (hb2.mono (by simp))).mono HB.out.size))
          clear hb2
          go_wp2
          go_ret
          exact ⟨ret_bool HN.out.symm, HB2.out⟩
        | true =>
          have HN : Hid (rawsUp rs (k + 1) = true) := by show rawsUp rs (k + 1) = _; rw [HS2.out, hb]
          rintro e w2 ⟨rfl, hb2⟩
          have HB2 := hide (HB.out.trans ((HBW.out.trans (hb2.mono (by simp))).mono HB.out.size))
          have cq : w2.cell? ⟨wr.heap.size, 1, none⟩ = some (.int .i64 q) := by rw [hb2.cell (p := ⟨wr.heap.size, 1, none⟩) (by simp)]; simp [go_sem]
          clear hb2
          go_wp2
          exact ⟨⟨k + 1, by omega, by go_num, by rw [hq], HN, HB2⟩, by simp [intOf]; omega⟩
    · have hkn : k = n := by omega
      subst hkn
      go_wp2
      go_ret
      exact ⟨ret_bool HU.out.symm, HB.out⟩
set_option maxHeartbeats 800000 in
theorem areRaws_none (a : Option Addr) (cap : Nat) (w : World) :
    Calls Tryd.prog 47 #[.slice a 0 cap] w fun e w' => e = .returned (.bool true) ∧ w' = w := by
  go_enter Tryd.func47, Tryd.ntmps47
  go_wp2
  go_loop [3, 8] (fun z i => i = .int .i64 0 ∧ z = .int .i64 0) (fun _ i => 0 - (intOf i).toNat)
  case atStart => exact ⟨rfl, rfl⟩
  case round =>
    obtain ⟨rfl, rfl⟩ := hrel
    go_wp2
    go_ret
    exact ⟨rfl, rfl⟩
theorem areRaws_any (a : Option Addr) (cap : Nat) (rs : List (Int × Int × List Nat)) (w : World) (hS : Said w) (hl : rs.length + sumR rs ≤ 100000) (h : RawRd w a rs) :
    Calls Tryd.prog 47 #[.slice a rs.length cap] w fun e w' => e = .returned (.bool (rawsUp rs rs.length)) ∧ Below w.heap.size w w' := by
  by_cases h0 : rs = []
  · subst h0
    exact (areRaws_none a cap w).mono fun _ _ h9 => ⟨h9.1, by rw [h9.2]; exact Below.refl _ _⟩
  · obtain ⟨b, off, rfl, hc⟩ := h (List.length_pos_iff.2 h0)
    exact areRaws_some b off rs.length cap rs w hS rfl hl hc
set_option maxHeartbeats 3200000 in
theorem good_plain (o : Int) (pa : Option Addr) (pn pc nx : Nat) (md pf : Int) (ca : Option Addr) (cn cc : Nat) (ra : Option Addr) (rn rc : Nat) (w : World) (bp br : Bool) (hnx : nx < 4294967296)
    (KP : Hid (∀ w1, Below w.heap.size w w1 → Calls Tryd.prog 44 #[.slice pa pn pc] w1 fun e w' => e = .returned (.bool bp) ∧ Below w1.heap.size w1 w'))
    (KR : Hid (∀ w1, Below w.heap.size w w1 → Calls Tryd.prog 47 #[.slice ra rn rc] w1 fun e w' => e = .returned (.bool br) ∧ Below w1.heap.size w1 w')) :
    Calls Tryd.prog 29 #[.agg #[.int .i64 o, .slice pa pn pc, .int .u32 (nx : Int), .int .i64 md, .int .i64 pf, .slice ca cn cc, .slice ra rn rc]] w fun e w' => e = .returned (.bool (decide (0 ≤ o ∧ o ≤ 2) && bp && hopB nx && decide (-1 ≤ md ∧ md ≤ 4294967295) && decide (-1 ≤ pf ∧ pf ≤ 4294967295) && decide (cn ≤ 32) && br)) ∧ Below w.heap.size w w' := by
  have HB1 : Hid (Below w.heap.size w (w.alloc (.cells #[.int .i64 o, .slice pa pn pc, .int .u32 (nx : Int), .int .i64 md, .int .i64 pf, .slice ca cn cc, .slice ra rn rc] 34))) := (Below.refl _ _).alloc (Nat.le_refl _) _
  have KO := hide (fun w1 => isOrigin_any o w1)
  have KN := hide (fun w1 => isNext_any nx w1 hnx)
  have KM := hide (fun w1 => isMed_any md w1)
  have KF := hide (fun w1 => isMed_any pf w1)
  generalize decide (0 ≤ o ∧ o ≤ 2) = b1 at *
  generalize hopB nx = b3 at *
  generalize decide (-1 ≤ md ∧ md ≤ 4294967295) = b4 at *
  generalize decide (-1 ≤ pf ∧ pf ≤ 4294967295) = b5 at *
  go_enter Tryd.func29, Tryd.ntmps29
  go_wp2_with fail
  refine (KO.out _).mono ?_
  rintro e w1 ⟨rfl, rfl⟩
  cases b1 with
  | false =>
    go_wp2
    go_ret
    exact ⟨by simp, HB1.out⟩
  | true =>
    go_wp2_with fail
    refine (KP.out _ HB1.out).mono ?_
    rintro e w2 ⟨rfl, hb2⟩
    have c2 : w2.cell? ⟨w.heap.size, 2, none⟩ = some (.int .u32 (nx : Int)) := by rw [hb2.cell (p := ⟨w.heap.size, 2, none⟩) (by simp)]; simp [go_sem]
    have c3 : w2.cell? ⟨w.heap.size, 3, none⟩ = some (.int .i64 md) := by rw [hb2.cell (p := ⟨w.heap.size, 3, none⟩) (by simp)]; simp [go_sem]
    have c4 : w2.cell? ⟨w.heap.size, 4, none⟩ = some (.int .i64 pf) := by rw [hb2.cell (p := ⟨w.heap.size, 4, none⟩) (by simp)]; simp [go_sem]
    have c5 : w2.cell? ⟨w.heap.size, 5, none⟩ = some (.slice ca cn cc) := by rw [hb2.cell (p := ⟨w.heap.size, 5, none⟩) (by simp)]; simp [go_sem]
    have c6 : w2.cell? ⟨w.heap.size, 6, none⟩ = some (.slice ra rn rc) := by rw [hb2.cell (p := ⟨w.heap.size, 6, none⟩) (by simp)]; simp [go_sem]
    have HB2 : Hid (Below w.heap.size w w2) := HB1.out.trans (hb2.mono (by simp))
    clear hb2 KP HB1 KO
    cases bp with
    | false =>
      go_wp2
      go_ret
      exact ⟨by simp, HB2.out⟩
    | true =>
      go_wp2_with fail
      refine (KN.out _).mono ?_
      rintro e w3 ⟨rfl, rfl⟩
      cases b3 with
      | false =>
        go_wp2
        go_ret
        exact ⟨by simp, HB2.out⟩
      | true =>
        go_wp2_with fail
        refine (KM.out _).mono ?_
        rintro e w4 ⟨rfl, rfl⟩
        cases b4 with
        | false =>
          go_wp2
          go_ret
          exact ⟨by simp, HB2.out⟩
        | true =>
          go_wp2_with fail
          refine (KF.out _).mono ?_
          rintro e w5 ⟨rfl, rfl⟩
          cases b5 with
          | false =>
            go_wp2
            go_ret
            exact ⟨by simp, HB2.out⟩
          | true =>
            by_cases h6 : cn ≤ 32
            · have j6 : (cn : Int) ≤ 32 := by omega
              have HD : Hid (decide (cn ≤ 32) = true) := decide_eq_true h6
              clear h6
              go_wp2_with fail
              refine (KR.out _ HB2.out).mono ?_
              rintro e w6 ⟨rfl, hb6⟩
              have HB6 : Hid (Below w.heap.size w w6) := HB2.out.trans (hb6.mono HB2.out.size)
              clear hb6
              go_wp2
              go_ret
              exact ⟨by rw [HD.out]; simp, HB6.out⟩
            · have j6 : decide ((cn : Int) ≤ 32) = false := decide_eq_false (by omega)
              have HD : Hid (decide (cn ≤ 32) = false) := decide_eq_false h6
              clear h6
              go_wp2
              go_ret
              exact ⟨by rw [HD.out]; simp, HB2.out⟩
theorem pgood_any (pa : Option Addr) (pc : Nat) (ca : Option Addr) (cc : Nat) (ra : Option Addr) (rc : Nat) (a : At) (w : World) (hS : Said w) (hl : sizeA a ≤ 100000) (h : AtRd w pa ca ra a) :
    Calls Tryd.prog 29 #[atV pa pc ca cc ra rc a] w fun e w' => e = .returned (.bool (goodA a)) ∧ Below w.heap.size w w' := by
  unfold sizeA at hl
  refine good_plain a.origin pa a.path.length pc a.next a.med a.pref ca a.comms.length cc ra a.raws.length rc w (goodP a.path) (rawsUp a.raws a.raws.length) h.next (fun w1 hb => good_any pa pc a.path w1 (by omega) (h.path.below hb)) (fun w1 hb => areRaws_any ra rc a.raws w1 (hS.below hb) (by omega) (h.raws.below hb))
end Go.Proofs.YthigjonagbfbbaaDoor
