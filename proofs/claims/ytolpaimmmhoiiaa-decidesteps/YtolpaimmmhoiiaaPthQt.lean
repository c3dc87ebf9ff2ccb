/- The program's First, Length and Has. -/
import Derived.Test.YtolpaimmmhoiiaaPthQs
import Derived.Test.YtolpaimmmhoiiaaPthQ
namespace Go.Proofs.Ytolpaimmmhoiiaa
open Go.RowKit
set_option maxRecDepth 100000

set_option maxHeartbeats 800000 in
theorem index_some (b off n cap : Nat) (x : Int) (zs : List Int) (w : World) (hn : zs.length = n) (hl : n ≤ 100000) (hc : ∀ j z, zs[j]? = some z → w.cell? ⟨b, off + j, none⟩ = some (.int .i64 z)) :
    Calls Try.prog 61 #[.slice (some ⟨b, off, none⟩) n cap, .int .i64 x] w fun e w' => (∃ r : Int, e = .returned (.int .i64 r) ∧ decide (0 ≤ r) = zs.any fun z => z == x) ∧ w' = w := by
  have HC := hide hc
  have HN := hide hn
  clear hc hn
  go_enter Try.func61, Try.ntmps61
  go_wp2
  go_loop [8] (fun i => ∃ q : Nat, q ≤ n ∧ i = .int .i64 q ∧ Hid ((zs.take q).any (fun z => z == x) = false)) (fun i => n - (intOf i).toNat)
  case atStart => exact ⟨0, Nat.zero_le _, rfl, rfl⟩
  case round =>
    obtain ⟨q, hq, rfl, HQ⟩ := hrel
    by_cases hlq : q < n
    · have hqp : q < zs.length := by rw [HN.out]; exact hlq
      have cz := HC.out q zs[q] (List.getElem?_eq_getElem hqp)
      have HTQ : Hid ((zs.take (q + 1)).any (fun z => z == x) = ((zs.take q).any (fun z => z == x) || zs[q] == x)) := by show (zs.take (q + 1)).any _ = _; rw [List.take_succ_eq_append_getElem hqp]; simp only [List.any_append, List.any_cons, List.any_nil, Bool.or_false]
      have HMQ : Hid (zs[q] = x → zs.any (fun z => z == x) = true) := fun e => by
        simp only [List.any_eq_true]
        exact ⟨zs[q], List.getElem_mem hqp, by simp [e]⟩
      generalize zs[q] = z at *
      have hq0 : (0 : Int) ≤ (q : Int) := Int.natCast_nonneg _
      have hq1 : (q : Int) < (n : Int) := by omega
      by_cases hzx : z = x
      · have HB : Hid (zs.any (fun z => z == x) = true) := HMQ.out hzx
        subst hzx
        go_wp2
        go_ret
        exact ⟨⟨_, rfl, by rw [HB.out]; simp⟩, rfl⟩
      · have hzx2 : (z == x) = false := by simpa using hzx
        have hzx3 : (x == z) = false := by simpa using (fun h : x = z => hzx h.symm)
        have HQ2 : Hid ((zs.take (q + 1)).any (fun z => z == x) = false) := by show (zs.take (q + 1)).any _ = _; rw [HTQ.out, HQ.out, hzx2]; rfl
        go_wp2
        exact ⟨⟨q + 1, by omega, by go_num, HQ2⟩, by simp [intOf]; omega⟩
    · have HE : Hid (zs.any (fun z => z == x) = false) := by
        have hz := HQ.out
        rw [List.take_of_length_le (by rw [HN.out]; omega)] at hz
        exact hz
      go_wp2
      go_ret
      exact ⟨⟨_, rfl, by rw [HE.out]; rfl⟩, rfl⟩
set_option maxHeartbeats 400000 in
theorem index_none (a : Option Addr) (cap : Nat) (x : Int) (w : World) : Calls Try.prog 61 #[.slice a 0 cap, .int .i64 x] w fun e w' => (∃ r : Int, e = .returned (.int .i64 r) ∧ decide (0 ≤ r) = false) ∧ w' = w := by
  go_enter Try.func61, Try.ntmps61
  go_wp2
  go_loop [8] (fun i => i = .int .i64 0) (fun i => 0 - (intOf i).toNat)
  case atStart => exact rfl
  case round =>
    obtain rfl := hrel
    go_wp2
    go_ret
    exact ⟨⟨-1, rfl, by decide⟩, rfl⟩
theorem index_any (a : Option Addr) (cap : Nat) (x : Int) (zs : List Int) (w : World) (hl : zs.length ≤ 100000) (h : IRd w a zs) : Calls Try.prog 61 #[.slice a zs.length cap, .int .i64 x] w fun e w' => (∃ r : Int, e = .returned (.int .i64 r) ∧ decide (0 ≤ r) = zs.any fun z => z == x) ∧ w' = w := by
  cases zs with
  | nil => exact index_none a cap x w
  | cons z r =>
    obtain ⟨b, off, rfl, hc⟩ := h (by simp)
    exact index_some b off _ cap x _ w rfl hl hc
set_option maxHeartbeats 400000 in
theorem cont_any (a : Option Addr) (cap : Nat) (x : Int) (zs : List Int) (w : World) (hl : zs.length ≤ 100000) (h : IRd w a zs) : Calls Try.prog 60 #[.slice a zs.length cap, .int .i64 x] w fun e w' => e = .returned (.bool (zs.any fun z => z == x)) ∧ w' = w := by
  have HI := hide (index_any a cap x zs w hl h)
  clear h
  generalize zs.length = l at *
  go_enter Try.func60, Try.ntmps60
  go_wp2_with fail
  refine HI.out.mono ?_
  rintro e w1 ⟨⟨r, rfl, hr⟩, rfl⟩
  have HR := hide hr
  clear hr HI
  go_wp2
  go_ret
  exact ⟨ret_bool HR.out, rfl⟩
set_option maxHeartbeats 400000 in
theorem holds1_any (sb : Bool) (a : Option Addr) (c X : Nat) (x : Int) (zs : List Int) (w : World) (hl : zs.length ≤ 100000) (h : IRd w a zs) (hX : w.cell? ⟨X, 0, none⟩ = some (.int .i64 x)) :
    Calls Try.prog 59 #[segV sb a zs.length c, .pointer (some ⟨X, 0, none⟩)] w fun e w' => e = .returned (.bool (zs.any fun z => z == x)) ∧ Below w.heap.size w w' := by
  have zX := World.block_lt_of_cell? w _ hX
  simp only at zX
  have hb1 : ∀ t, Below w.heap.size w (w.alloc (.cells #[.bool sb, .slice a zs.length c] t)) := fun t => (Below.refl _ _).alloc (Nat.le_refl _) _
  have HK : Hid (∀ t, Calls Try.prog 60 #[.slice a zs.length c, .int .i64 x] (w.alloc (.cells #[.bool sb, .slice a zs.length c] t)) fun e w' => e = .returned (.bool (zs.any fun z => z == x)) ∧ w' = w.alloc (.cells #[.bool sb, .slice a zs.length c] t)) := fun t => cont_any a c x zs _ hl (h.below (hb1 t))
  clear h hb1
  generalize zs.length = l at *
  unfold segV
  go_enter Try.func59, Try.ntmps59
  go_wp2_with fail
  refine (HK.out _).mono ?_
  rintro e w1 ⟨rfl, rfl⟩
  clear HK
  go_wp2
  go_ret
  exact ⟨rfl, (Below.refl _ _).alloc (Nat.le_refl _) _⟩
set_option maxHeartbeats 800000 in
theorem indexf_some (b off n cap X : Nat) (x : Int) (ss : List (Bool × List Int)) (w : World) (hn : ss.length = n) (hsum : n + sumP ss ≤ 100000) (hX : w.cell? ⟨X, 0, none⟩ = some (.int .i64 x)) (hc : ∀ i s, ss[i]? = some s → w.cell? ⟨b, off + i * 2, none⟩ = some (.bool s.1) ∧ ∃ a' c', w.cell? ⟨b, off + i * 2 + 1, none⟩ = some (.slice a' s.2.length c') ∧ IRd w a' s.2) :
    Calls Try.prog 58 #[.slice (some ⟨b, off, none⟩) n cap, .func (.func 59) #[] #[.pointer (some ⟨X, 0, none⟩)]] w fun e w' => (∃ r : Int, e = .returned (.int .i64 r) ∧ decide (0 ≤ r) = hasP ss x) ∧ Below w.heap.size w w' := by
  have HC := hide hc
  have HN := hide hn
  have HXX := hide hX
  clear hc hn hX
  go_enter Try.func58, Try.ntmps58
  go_wp2
  go_loopw [8] (fun i wq => ∃ k : Nat, k ≤ n ∧ i = .int .i64 k ∧ Hid (hasP (ss.take k) x = false) ∧ Hid (Below w.heap.size w wq)) (fun i _ => n - (intOf i).toNat)
  case atStart => exact ⟨0, Nat.zero_le _, rfl, rfl, Below.refl _ _⟩
  case round =>
    obtain ⟨k, hk, rfl, HA, HB⟩ := hrel
    by_cases hlt : k < n
    · have hkp : k < ss.length := by rw [HN.out]; exact hlt
      obtain ⟨c0, a', c', c1, hr⟩ := HC.out k ss[k] (List.getElem?_eq_getElem hkp)
      have z0 := World.block_lt_of_cell? w _ c0
      have zX := World.block_lt_of_cell? w _ HXX.out
      simp only at z0 zX
      have HT : Hid (hasP (ss.take (k + 1)) x = (hasP (ss.take k) x || (ss[k]).2.any fun z => z == x)) := by show hasP (ss.take (k + 1)) x = _; rw [List.take_succ_eq_append_getElem hkp]; simp only [hasP, List.any_append, List.any_cons, List.any_nil, Bool.or_false]
      have HM : Hid ((ss[k]).2.any (fun z => z == x) = true → hasP ss x = true) := fun h => by
        simp only [hasP, List.any_eq_true]
        exact ⟨ss[k], List.getElem_mem hkp, by simpa using h⟩
      have hl : (ss[k]).2.length ≤ 100000 := by have := sumP_mem ss _ (List.getElem_mem hkp); omega
      have d0 : wr.cell? ⟨b, off + k * 2, none⟩ = some (.bool (ss[k]).1) := by rw [HB.out.cell (p := ⟨b, off + k * 2, none⟩) z0]; exact c0
      have d1 : wr.cell? ⟨b, off + k * 2 + 1, none⟩ = some (.slice a' (ss[k]).2.length c') := by rw [HB.out.cell (p := ⟨b, off + k * 2 + 1, none⟩) z0]; exact c1
      have HK := hide (holds1_any (ss[k]).1 a' c' X x (ss[k]).2 wr hl (hr.below HB.out) (by rw [HB.out.cell (p := ⟨X, 0, none⟩) zX]; exact HXX.out))
      generalize hsk : ss[k] = s at *
      clear hsk hr c0 c1
      obtain ⟨b1, zs⟩ := s
      simp only at hl d0 d1 HK
      generalize zs.length = l at *
      have hk0 : (0 : Int) ≤ (k : Int) := Int.natCast_nonneg _
      have hk1 : (k : Int) < (n : Int) := by omega
      go_wp2_with fail
      refine HK.out.mono ?_
      rintro e w2 ⟨rfl, hb2⟩
      have HB2 : Hid (Below w.heap.size w w2) := HB.out.trans (hb2.mono HB.out.size)
      clear hb2 HK
      cases hr : zs.any (fun z => z == x) with
      | true =>
        have HP : Hid (hasP ss x = true) := HM.out hr
        clear hr
        go_wp2
        go_ret
        exact ⟨⟨_, rfl, by rw [HP.out]; simp⟩, HB2.out⟩
      | false =>
        have HP : Hid (hasP (ss.take (k + 1)) x = false) := by show hasP (ss.take (k + 1)) x = false; rw [HT.out, HA.out]; exact hr
        clear hr
        go_wp2
        exact ⟨⟨k + 1, by omega, by go_num, HP, HB2⟩, by simp [intOf]; omega⟩
    · have HE : Hid (hasP ss x = false) := by
        have hz := HA.out
        rw [List.take_of_length_le (by rw [HN.out]; omega)] at hz
        exact hz
      go_wp2
      go_ret
      exact ⟨⟨_, rfl, by rw [HE.out]; rfl⟩, HB.out⟩
set_option maxHeartbeats 400000 in
theorem indexf_none (a : Option Addr) (cap X : Nat) (w : World) : Calls Try.prog 58 #[.slice a 0 cap, .func (.func 59) #[] #[.pointer (some ⟨X, 0, none⟩)]] w fun e w' => (∃ r : Int, e = .returned (.int .i64 r) ∧ decide (0 ≤ r) = false) ∧ Below w.heap.size w w' := by
  go_enter Try.func58, Try.ntmps58
  go_wp2
  go_loop [8] (fun i => i = .int .i64 0) (fun i => 0 - (intOf i).toNat)
  case atStart => exact rfl
  case round =>
    obtain rfl := hrel
    go_wp2
    go_ret
    exact ⟨⟨-1, rfl, by decide⟩, Below.refl _ _⟩
theorem indexf_any (a : Option Addr) (cap X : Nat) (x : Int) (ss : List (Bool × List Int)) (w : World) (hsum : ss.length + sumP ss ≤ 100000) (hX : w.cell? ⟨X, 0, none⟩ = some (.int .i64 x)) (h : PthRd w a ss) :
    Calls Try.prog 58 #[.slice a ss.length cap, .func (.func 59) #[] #[.pointer (some ⟨X, 0, none⟩)]] w fun e w' => (∃ r : Int, e = .returned (.int .i64 r) ∧ decide (0 ≤ r) = hasP ss x) ∧ Below w.heap.size w w' := by
  by_cases h0 : ss = []
  · subst h0; exact indexf_none a cap X w
  · obtain ⟨b, off, rfl, hc⟩ := h.cells (List.length_pos_iff.2 h0)
    exact indexf_some b off _ cap X x ss w rfl hsum hX hc
set_option maxHeartbeats 400000 in
theorem contf_any (a : Option Addr) (cap X : Nat) (x : Int) (ss : List (Bool × List Int)) (w : World) (hsum : ss.length + sumP ss ≤ 100000) (hX : w.cell? ⟨X, 0, none⟩ = some (.int .i64 x)) (h : PthRd w a ss) :
    Calls Try.prog 56 #[.slice a ss.length cap, .func (.func 59) #[] #[.pointer (some ⟨X, 0, none⟩)]] w fun e w' => e = .returned (.bool (hasP ss x)) ∧ Below w.heap.size w w' := by
  have HI := hide (indexf_any a cap X x ss w hsum hX h)
  clear h hsum hX
  generalize ss.length = n at *
  go_enter Try.func56, Try.ntmps56
  go_wp2_with fail
  refine HI.out.mono ?_
  rintro e w1 ⟨⟨r, rfl, hr⟩, hb⟩
  have HR := hide hr
  have HB := hide hb
  clear hr HI hb
  go_wp2
  go_ret
  exact ⟨ret_bool HR.out, HB.out⟩
set_option maxHeartbeats 400000 in
theorem holds_any (x : Int) (w : World) : Calls Try.prog 57 #[.int .i64 x] w fun e w' => e = .returned (.func (.func 59) #[] #[.pointer (some ⟨w.heap.size, 0, none⟩)]) ∧ w' = w.alloc (.cells #[.int .i64 x] 3) := by
  go_enter Try.func57, Try.ntmps57
  go_wp2
  go_ret
  exact ⟨rfl, rfl⟩
set_option maxHeartbeats 400000 in
theorem has_any (a : Option Addr) (cap : Nat) (x : Int) (ss : List (Bool × List Int)) (w : World) (hsum : ss.length + sumP ss ≤ 100000) (h : PthRd w a ss) :
    Calls Try.prog 52 #[.slice a ss.length cap, .int .i64 x] w fun e w' => e = .returned (.bool (hasP ss x)) ∧ Below w.heap.size w w' := by
  have hb1 : Below w.heap.size w (w.alloc (.cells #[.int .i64 x] 3)) := (Below.refl _ _).alloc (Nat.le_refl _) _
  have HI := hide (contf_any a cap w.heap.size x ss _ hsum (by simp [go_sem]) (h.below hb1))
  clear h hsum
  generalize ss.length = n at *
  go_enter Try.func52, Try.ntmps52
  go_wp2_with fail
  refine (holds_any x w).mono ?_
  rintro e w1 ⟨rfl, rfl⟩
  go_wp2_with fail
  refine HI.out.mono ?_
  rintro e w1 ⟨rfl, hb⟩
  have HB := hide (hb1.trans (hb.mono hb1.size))
  clear hb HI hb1
  go_wp2
  go_ret
  exact ⟨rfl, HB.out⟩
set_option maxHeartbeats 800000 in
theorem len_some (b off n cap : Nat) (ss : List (Bool × List Int)) (w : World) (hn : ss.length = n) (hsum : n + sumP ss ≤ 100000) (hc : ∀ i s, ss[i]? = some s → w.cell? ⟨b, off + i * 2, none⟩ = some (.bool s.1) ∧ ∃ a' c', w.cell? ⟨b, off + i * 2 + 1, none⟩ = some (.slice a' s.2.length c') ∧ IRd w a' s.2) :
    Calls Try.prog 45 #[.slice (some ⟨b, off, none⟩) n cap] w fun e w' => e = .returned (.int .i64 (lenP ss : Int)) ∧ Below w.heap.size w w' := by
  have HC := hide hc
  have HN := hide hn
  clear hc hn
  go_enter Try.func45, Try.ntmps45
  go_wp2
  go_loopw [3, 8] (fun t i wq => ∃ k x : Nat, k ≤ n ∧ i = .int .i64 k ∧ t = .int .i64 (x : Int) ∧ Hid (x = lenP (ss.take k)) ∧ Hid (Below w.heap.size w wq)) (fun _ i _ => n - (intOf i).toNat)
  case atStart => exact ⟨0, 0, Nat.zero_le _, rfl, rfl, rfl, Below.refl _ _⟩
  case round =>
    obtain ⟨k, x, hk, rfl, rfl, HX, HB⟩ := hrel
    by_cases hlt : k < n
    · have hkp : k < ss.length := by rw [HN.out]; exact hlt
      obtain ⟨c0, a', c', c1, _⟩ := HC.out k ss[k] (List.getElem?_eq_getElem hkp)
      have z0 := World.block_lt_of_cell? w _ c0
      simp only at z0
      have HT : Hid (lenP (ss.take (k + 1)) = lenP (ss.take k) + (if (ss[k]).1 then 1 else (ss[k]).2.length)) := by show lenP (ss.take (k + 1)) = _; rw [List.take_succ_eq_append_getElem hkp, lenP_snoc]
      have hx : x ≤ 100000 := by have := lenP_take ss k; rw [HX.out]; omega
      have hl : (ss[k]).2.length ≤ 100000 := by have := sumP_mem ss _ (List.getElem_mem hkp); omega
      have d0 : wr.cell? ⟨b, off + k * 2, none⟩ = some (.bool (ss[k]).1) := by rw [HB.out.cell (p := ⟨b, off + k * 2, none⟩) z0]; exact c0
      have d1 : wr.cell? ⟨b, off + k * 2 + 1, none⟩ = some (.slice a' (ss[k]).2.length c') := by rw [HB.out.cell (p := ⟨b, off + k * 2 + 1, none⟩) z0]; exact c1
      generalize (ss[k]).1 = b1 at *
      generalize (ss[k]).2.length = l at *
      clear c0 c1
      have hk0 : (0 : Int) ≤ (k : Int) := Int.natCast_nonneg _
      have hk1 : (k : Int) < (n : Int) := by omega
      have HS := hide (isSeq_any b1 a' l c' (wr.alloc (.cells #[.bool b1, .slice a' l c'] 47)))
      cases b1 with
      | true =>
        go_wp2_with fail
        refine HS.out.mono ?_
        rintro e w2 ⟨rfl, hb2⟩
        have HB2 : Hid (Below w.heap.size w w2) := (HB.out.alloc HB.out.size _).trans (hb2.mono (by simp; have := HB.out.size; omega))
        clear hb2 HS
        go_wp2
        exact ⟨⟨k + 1, x + 1, by omega, by go_num, by go_num, by show x + 1 = _; rw [HT.out, HX.out]; simp, HB2⟩, by simp [intOf]; omega⟩
      | false =>
        go_wp2_with fail
        refine HS.out.mono ?_
        rintro e w2 ⟨rfl, hb2⟩
        have e1 : w2.cell? ⟨wr.heap.size, 1, none⟩ = some (.slice a' l c') := by rw [hb2.cell (p := ⟨wr.heap.size, 1, none⟩) (by simp)]; simp [go_sem]
        have z2 : wr.heap.size < w2.heap.size := by have := hb2.size; simp at this; omega
        have HB2 : Hid (Below w.heap.size w w2) := (HB.out.alloc HB.out.size _).trans (hb2.mono (by simp; have := HB.out.size; omega))
        clear hb2 HS
        go_wp2
        exact ⟨⟨k + 1, x + l, by omega, by go_num, by go_num, by show x + l = _; rw [HT.out, HX.out]; simp, HB2⟩, by simp [intOf]; omega⟩
    · go_wp2
      go_ret
      exact ⟨ret_int (by rw [HX.out, List.take_of_length_le (by rw [HN.out]; omega)]), HB.out⟩
set_option maxHeartbeats 400000 in
theorem len_empty (a : Option Addr) (cap : Nat) (w : World) : Calls Try.prog 45 #[.slice a 0 cap] w fun e w' => e = .returned (.int .i64 0) ∧ Below w.heap.size w w' := by
  go_enter Try.func45, Try.ntmps45
  go_wp2
  go_loop [3, 8] (fun t i => i = .int .i64 0 ∧ t = .int .i64 0) (fun _ i => 0 - (intOf i).toNat)
  case atStart => exact ⟨rfl, rfl⟩
  case round =>
    obtain ⟨rfl, rfl⟩ := hrel
    go_wp2
    go_ret
    exact ⟨rfl, Below.refl _ _⟩
theorem len_any (a : Option Addr) (cap : Nat) (ss : List (Bool × List Int)) (w : World) (hsum : ss.length + sumP ss ≤ 100000) (h : PthRd w a ss) : Calls Try.prog 45 #[.slice a ss.length cap] w fun e w' => e = .returned (.int .i64 (lenP ss : Int)) ∧ Below w.heap.size w w' := by
  by_cases h0 : ss = []
  · subst h0; exact len_empty a cap w
  · obtain ⟨b, off, rfl, hc⟩ := h.cells (List.length_pos_iff.2 h0)
    exact len_some b off _ cap ss w rfl hsum hc
set_option maxHeartbeats 400000 in
theorem first_none (a : Option Addr) (cap : Nat) (w : World) : Calls Try.prog 46 #[.slice a 0 cap] w fun e w' => e = .returned (.tuple #[.int .i64 0, .bool false]) ∧ Below w.heap.size w w' := by
  go_enter Try.func46, Try.ntmps46
  go_wp2
  go_ret2
  exact ⟨rfl, Below.refl _ _⟩
set_option maxHeartbeats 400000 in
theorem first_empty (b off n cap : Nat) (a' : Option Addr) (c' : Nat) (w : World) (hn : 0 < n) (c1 : w.cell? ⟨b, off + 1, none⟩ = some (.slice a' 0 c')) : Calls Try.prog 46 #[.slice (some ⟨b, off, none⟩) n cap] w fun e w' => e = .returned (.tuple #[.int .i64 0, .bool false]) ∧ Below w.heap.size w w' := by
  have d0 : ((n : Int) == 0) = false := by simp; omega
  have h0 : (0 : Int) < (n : Int) := by omega
  go_enter Try.func46, Try.ntmps46
  go_wp2
  go_ret2
  exact ⟨rfl, Below.refl _ _⟩
set_option maxHeartbeats 800000 in
theorem first_set (b off n cap l : Nat) (a' : Option Addr) (c' : Nat) (w : World) (hn : 0 < n) (hl : 0 < l) (c0 : w.cell? ⟨b, off, none⟩ = some (.bool true)) (c1 : w.cell? ⟨b, off + 1, none⟩ = some (.slice a' l c')) : Calls Try.prog 46 #[.slice (some ⟨b, off, none⟩) n cap] w fun e w' => e = .returned (.tuple #[.int .i64 0, .bool false]) ∧ Below w.heap.size w w' := by
  have d0 : ((n : Int) == 0) = false := by simp; omega
  have d1 : ((l : Int) == 0) = false := by simp; omega
  have h0 : (0 : Int) < (n : Int) := by omega
  have HS := hide (isSeq_any true a' l c' w)
  go_enter Try.func46, Try.ntmps46
  go_wp2_with fail
  refine HS.out.mono ?_
  rintro e w2 ⟨rfl, hb2⟩
  have HB2 := hide hb2
  clear hb2 HS
  go_wp2
  go_ret2
  exact ⟨rfl, HB2.out⟩
set_option maxHeartbeats 800000 in
theorem first_one (b off n cap b2 o2 l c' : Nat) (z : Int) (w : World) (hn : 0 < n) (hl : 0 < l) (c0 : w.cell? ⟨b, off, none⟩ = some (.bool false)) (c1 : w.cell? ⟨b, off + 1, none⟩ = some (.slice (some ⟨b2, o2, none⟩) l c')) (cz : w.cell? ⟨b2, o2, none⟩ = some (.int .i64 z)) : Calls Try.prog 46 #[.slice (some ⟨b, off, none⟩) n cap] w fun e w' => e = .returned (.tuple #[.int .i64 z, .bool true]) ∧ Below w.heap.size w w' := by
  have d0 : ((n : Int) == 0) = false := by simp; omega
  have d1 : ((l : Int) == 0) = false := by simp; omega
  have h0 : (0 : Int) < (n : Int) := by omega
  have h1 : (0 : Int) < (l : Int) := by omega
  have HS := hide (isSeq_any false (some ⟨b2, o2, none⟩) l c' w)
  go_enter Try.func46, Try.ntmps46
  go_wp2_with fail
  refine HS.out.mono ?_
  rintro e w2 ⟨rfl, hb2⟩
  have e1 : w2.cell? ⟨b, off + 1, none⟩ = some (.slice (some ⟨b2, o2, none⟩) l c') := by rw [hb2.cell (p := ⟨b, off + 1, none⟩) (World.block_lt_of_cell? w _ c1)]; exact c1
  have e2 : w2.cell? ⟨b2, o2, none⟩ = some (.int .i64 z) := by rw [hb2.cell (p := ⟨b2, o2, none⟩) (World.block_lt_of_cell? w _ cz)]; exact cz
  have HB2 := hide hb2
  clear hb2 HS
  go_wp2
  go_ret2
  exact ⟨rfl, HB2.out⟩
theorem first_any (a : Option Addr) (cap : Nat) (ss : List (Bool × List Int)) (w : World) (h : PthRd w a ss) : Calls Try.prog 46 #[.slice a ss.length cap] w fun e w' => e = .returned (firstV (firstP ss)) ∧ Below w.heap.size w w' := by
  match ss, h with
  | [], _ => exact first_none a cap w
  | (true, []) :: r, h =>
    obtain ⟨b, off, rfl, hc⟩ := h.cells (by simp)
    obtain ⟨_, a', c', c1, _⟩ := hc 0 _ rfl
    exact first_empty b off _ cap a' c' w (by simp) (by simpa using c1)
  | (true, z :: zs) :: r, h =>
    obtain ⟨b, off, rfl, hc⟩ := h.cells (by simp)
    obtain ⟨c0, a', c', c1, _⟩ := hc 0 _ rfl
    exact first_set b off (r.length + 1) cap (zs.length + 1) a' c' w (by omega) (by omega) (by simpa using c0) (by simpa using c1)
  | (false, []) :: r, h =>
    obtain ⟨b, off, rfl, hc⟩ := h.cells (by simp)
    obtain ⟨_, a', c', c1, _⟩ := hc 0 _ rfl
    exact first_empty b off _ cap a' c' w (by simp) (by simpa using c1)
  | (false, z :: zs) :: r, h =>
    obtain ⟨b, off, rfl, hc⟩ := h.cells (by simp)
    obtain ⟨c0, a', c', c1, hr⟩ := hc 0 _ rfl
    obtain ⟨b2, o2, rfl, hz⟩ := hr (by simp)
    exact first_one b off (r.length + 1) cap b2 o2 (zs.length + 1) c' z w (by omega) (by omega) (by simpa using c0) (by simpa using c1) (by simpa using hz 0 z rfl)
end Go.Proofs.Ytolpaimmmhoiiaa
