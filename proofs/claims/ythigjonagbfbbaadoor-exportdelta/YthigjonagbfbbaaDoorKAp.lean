/- The document's Right, Less and Covers; the program's Compare. -/
import Derived.Test.YthigjonagbfbbaaDoorKAn
import Derived.Test.YthigjonagbfbbaaDoorKAo
import Derived.Test.YthigjonagbfbbaaDoorKAm
namespace Go.Proofs.YthigjonagbfbbaaDoor
open Go.RowKit
set_option maxRecDepth 100000

set_option maxHeartbeats 400000 in
theorem right_out (A : Nat) (L : Int) (w : World) (h : L < 0 ∨ 32 < L) : Calls Tryd.prog 33 #[pfx A L] w fun e w' => e = .returned (.bool (rightB A L)) ∧ Below w.heap.size w w' := by
  have HR := hide (rightB_out A L h)
  unfold pfx
  by_cases h0 : L < 0
  · clear h
    go_enter Tryd.func33, Tryd.ntmps33
    go_wp2
    go_ret
    exact ⟨ret_bool HR.out.symm, (Below.refl _ _).alloc (Nat.le_refl _) _⟩
  · have h1 : 32 < L := by omega
    clear h
    go_enter Tryd.func33, Tryd.ntmps33
    go_wp2
    go_ret
    exact ⟨ret_bool HR.out.symm, (Below.refl _ _).alloc (Nat.le_refl _) _⟩
set_option maxHeartbeats 800000 in
theorem right_in (A n : Nat) (w : World) (hn : n ≤ 32) : Calls Tryd.prog 33 #[pfx A n] w fun e w' => e = .returned (.bool (rightB A n)) ∧ Below w.heap.size w w' := by
  unfold pfx
  have d0 : decide ((n : Int) < 0) = false := decide_eq_false (by omega)
  have d1 : decide ((32 : Int) < (n : Int)) = false := decide_eq_false (by omega)
  go_enter Tryd.func33, Tryd.ntmps33
  go_wp2
  go_loopw [3] (fun i wq => ∃ k : Nat, n ≤ k ∧ k ≤ 32 ∧ i = .int .i64 k ∧ Hid (cutTo A k = cutTo A n) ∧ wq = w.alloc (.cells #[.int .u32 (A : Int), .int .i64 (n : Int)] 29)) (fun i _ => 32 - (intOf i).toNat)
  case atStart => exact ⟨n, Nat.le_refl _, hn, rfl, rfl, rfl⟩
  case round =>
    obtain ⟨k, hk, hk2, rfl, HE, rfl⟩ := hrel
    by_cases hlt : k < 32
    · have hb := bitAt_lt A k
      by_cases h1 : bitAt A k = 1
      · have e1 : (((bitAt A k : Nat) : Int) == 1) = true := by rw [h1]; rfl
        have HR : Hid (rightB A n = false) := right_no hn HE.out hlt h1
        clear h1 hb
        go_wp2_with fail
        refine (bit_any A k _ hlt).mono ?_
        rintro e w' ⟨rfl, rfl⟩
        go_wp2
        go_ret
        exact ⟨ret_bool HR.out.symm, (Below.refl _ _).alloc (Nat.le_refl _) _⟩
      · have e1 : (((bitAt A k : Nat) : Int) == 1) = false := by rw [show bitAt A k = 0 from by omega]; rfl
        have HR : Hid (cutTo A (k + 1) = cutTo A n) := right_go HE.out hlt h1
        clear h1 hb
        go_wp2_with fail
        refine (bit_any A k _ hlt).mono ?_
        rintro e w' ⟨rfl, rfl⟩
        go_wp2
        exact ⟨⟨k + 1, by omega, by omega, by go_num, HR, trivial⟩, by simp [intOf]; omega⟩
    · have HR : Hid (rightB A n = true) := right_end hk HE.out (by omega)
      go_wp2
      go_ret
      exact ⟨ret_bool HR.out.symm, (Below.refl _ _).alloc (Nat.le_refl _) _⟩
theorem right_any (A : Nat) (L : Int) (w : World) : Calls Tryd.prog 33 #[pfx A L] w fun e w' => e = .returned (.bool (rightB A L)) ∧ Below w.heap.size w w' := by
  by_cases h : L < 0 ∨ 32 < L
  · exact right_out A L w h
  · obtain ⟨n, rfl⟩ := Int.eq_ofNat_of_zero_le (show 0 ≤ L by omega)
    exact right_in A n w (by omega)
/-- Is A/L ahead of B/M? -/
def lessB (A : Nat) (L : Int) (B : Nat) (M : Int) : Bool := decide (A < B ∨ (A = B ∧ L < M))
set_option maxHeartbeats 800000 in
theorem less_any (A B : Nat) (L M : Int) (w : World) : Calls Tryd.prog 34 #[pfx A L, pfx B M] w fun e w' => e = .returned (.bool (lessB A L B M)) ∧ Below w.heap.size w w' := by
  unfold pfx
  by_cases h1 : A < B
  · have i1 : (A : Int) < (B : Int) := by omega
    have HR : Hid (lessB A L B M = true) := decide_eq_true (.inl h1)
    clear h1
    go_enter Tryd.func34, Tryd.ntmps34
    go_wp2
    go_ret
    exact ⟨ret_bool HR.out.symm, ((Below.refl _ _).alloc (Nat.le_refl _) _).alloc (by simp) _⟩
  · by_cases h2 : A = B
    · subst h2
      have d1 : decide ((A : Int) < (A : Int)) = false := decide_eq_false (by omega)
      have HR : Hid (lessB A L A M = decide (L < M)) := by show lessB A L A M = _; unfold lessB; simp
      clear h1
      go_enter Tryd.func34, Tryd.ntmps34
      go_wp2
      go_ret
      exact ⟨ret_bool HR.out.symm, ((Below.refl _ _).alloc (Nat.le_refl _) _).alloc (by simp) _⟩
    · have d1 : decide (A < B) = false := decide_eq_false h1
      have d2 : ((A : Int) == (B : Int)) = false := by simp; omega
      have HR : Hid (lessB A L B M = false) := decide_eq_false (by omega)
      clear h1 h2
      go_enter Tryd.func34, Tryd.ntmps34
      go_wp2
      go_ret
      exact ⟨ret_bool HR.out.symm, ((Below.refl _ _).alloc (Nat.le_refl _) _).alloc (by simp) _⟩
set_option maxHeartbeats 800000 in
theorem rcovers_left (A B : Nat) (L M : Int) (w : World) (h : rightB A L = false) : Calls Tryd.prog 40 #[pfx A L, pfx B M] w fun e w' => e = .returned (.bool (covB A L B M)) ∧ Below w.heap.size w w' := by
  have HR := hide h
  have HC : Hid (covB A L B M = false) := covB_left h
  clear h
  unfold pfx
  go_enter Tryd.func40, Tryd.ntmps40
  go_wp2_with fail
  refine (right_any A L _).mono ?_
  rw [HR.out]
  rintro e w1 ⟨rfl, hb⟩
  have HB := hide hb
  clear hb
  go_wp2
  go_ret
  exact ⟨ret_bool HC.out.symm, (((Below.refl _ _).alloc (Nat.le_refl _) _).alloc (by simp) _).trans (HB.out.mono (by simp <;> omega))⟩
theorem cut_zero (A B : Nat) (hA : A < 4294967296) (hB : B < 4294967296) : cutTo A 0 = cutTo B 0 := by rw [cutTo_none A hA, cutTo_none B hB]
theorem two_cells {w w1 : World} {A B : Nat} {L M : Int} {t : TypeId} (hb : Below ((w.alloc (.cells #[.int .u32 (A : Int), .int .i64 L] t)).alloc (.cells #[.int .u32 (B : Int), .int .i64 M] t)).heap.size ((w.alloc (.cells #[.int .u32 (A : Int), .int .i64 L] t)).alloc (.cells #[.int .u32 (B : Int), .int .i64 M] t)) w1) :
    (w1.cell? ⟨w.heap.size, 0, none⟩ = some (.int .u32 (A : Int)) ∧ w1.cell? ⟨w.heap.size, 1, none⟩ = some (.int .i64 L) ∧ w1.cell? ⟨w.heap.size + 1, 0, none⟩ = some (.int .u32 (B : Int)) ∧ w1.cell? ⟨w.heap.size + 1, 1, none⟩ = some (.int .i64 M)) ∧ Below w.heap.size w w1 ∧ w.heap.size + 1 < w1.heap.size := by
  refine ⟨⟨?_, ?_, ?_, ?_⟩, (((Below.refl _ _).alloc (Nat.le_refl _) _).alloc (by simp) _).trans (hb.mono (by simp <;> omega)), by have := hb.size; simp at this; omega⟩
  · rw [hb.cell (p := ⟨w.heap.size, 0, none⟩) (by simp <;> omega)]; simp [go_sem]
  · rw [hb.cell (p := ⟨w.heap.size, 1, none⟩) (by simp <;> omega)]; simp [go_sem]
  · rw [hb.cell (p := ⟨w.heap.size + 1, 0, none⟩) (by simp <;> omega)]; simp [go_sem]
  · rw [hb.cell (p := ⟨w.heap.size + 1, 1, none⟩) (by simp <;> omega)]; simp [go_sem]
theorem two_later {w w1 w2 : World} {A B : Nat} {L M : Int} (h : (w1.cell? ⟨w.heap.size, 0, none⟩ = some (.int .u32 (A : Int)) ∧ w1.cell? ⟨w.heap.size, 1, none⟩ = some (.int .i64 L) ∧ w1.cell? ⟨w.heap.size + 1, 0, none⟩ = some (.int .u32 (B : Int)) ∧ w1.cell? ⟨w.heap.size + 1, 1, none⟩ = some (.int .i64 M)) ∧ Below w.heap.size w w1 ∧ w.heap.size + 1 < w1.heap.size)
    (hb : Below w1.heap.size w1 w2) : (w2.cell? ⟨w.heap.size, 0, none⟩ = some (.int .u32 (A : Int)) ∧ w2.cell? ⟨w.heap.size, 1, none⟩ = some (.int .i64 L) ∧ w2.cell? ⟨w.heap.size + 1, 0, none⟩ = some (.int .u32 (B : Int)) ∧ w2.cell? ⟨w.heap.size + 1, 1, none⟩ = some (.int .i64 M)) ∧ Below w.heap.size w w2 ∧ w.heap.size + 1 < w2.heap.size := by
  obtain ⟨⟨h0, h1, h2, h3⟩, h4, h5⟩ := h
  have := hb.size
  exact ⟨⟨by rw [hb.cell (p := ⟨w.heap.size, 0, none⟩) (by simp <;> omega)]; exact h0, by rw [hb.cell (p := ⟨w.heap.size, 1, none⟩) (by simp <;> omega)]; exact h1, by rw [hb.cell (p := ⟨w.heap.size + 1, 0, none⟩) (by simp <;> omega)]; exact h2, by rw [hb.cell (p := ⟨w.heap.size + 1, 1, none⟩) (by simp <;> omega)]; exact h3⟩, h4.trans (hb.mono h4.size), by omega⟩
set_option maxHeartbeats 800000 in
theorem rcovers_right (A B : Nat) (L M : Int) (w : World) (h : rightB A L = true) (h2 : rightB B M = false) : Calls Tryd.prog 40 #[pfx A L, pfx B M] w fun e w' => e = .returned (.bool (covB A L B M)) ∧ Below w.heap.size w w' := by
  have HR := hide h
  have HR2 := hide h2
  have HC : Hid (covB A L B M = false) := covB_right h2
  clear h h2
  unfold pfx
  go_enter Tryd.func40, Tryd.ntmps40
  go_wp2_with fail
  refine (right_any A L _).mono ?_
  rw [HR.out]
  rintro e w1 ⟨rfl, hb⟩
  have HT := hide (two_cells hb)
  obtain ⟨⟨c0, c1, c2, c3⟩, _, hz⟩ := two_cells hb
  clear hb
  go_wp2_with fail
  refine (right_any B M _).mono ?_
  rw [HR2.out]
  rintro e w2 ⟨rfl, hb⟩
  have HT2 := hide (two_later HT.out hb)
  clear hb
  go_wp2
  go_ret
  exact ⟨ret_bool HC.out.symm, HT2.out.2.1⟩
set_option maxHeartbeats 800000 in
theorem rcovers_len (A B : Nat) (L M : Int) (w : World) (h : rightB A L = true) (h2 : rightB B M = true) (h3 : M < L) : Calls Tryd.prog 40 #[pfx A L, pfx B M] w fun e w' => e = .returned (.bool (covB A L B M)) ∧ Below w.heap.size w w' := by
  have HR := hide h
  have HR2 := hide h2
  have HC : Hid (covB A L B M = false) := covB_len (by omega)
  clear h h2
  unfold pfx
  go_enter Tryd.func40, Tryd.ntmps40
  go_wp2_with fail
  refine (right_any A L _).mono ?_
  rw [HR.out]
  rintro e w1 ⟨rfl, hb⟩
  have HT := hide (two_cells hb)
  obtain ⟨⟨c0, c1, c2, c3⟩, _, hz⟩ := two_cells hb
  clear hb
  go_wp2_with fail
  refine (right_any B M _).mono ?_
  rw [HR2.out]
  rintro e w2 ⟨rfl, hb⟩
  have HT2 := hide (two_later HT.out hb)
  obtain ⟨⟨e0, e1, e2, e3⟩, _, hz2⟩ := two_later HT.out hb
  clear hb c0 c1 c2 c3
  go_wp2
  go_ret
  exact ⟨ret_bool HC.out.symm, HT2.out.2.1⟩
set_option maxHeartbeats 1600000 in
theorem rcovers_in (A B n : Nat) (M : Int) (w : World) (hA : A < 4294967296) (hB : B < 4294967296) (hn : n ≤ 32) (h : rightB A n = true) (h2 : rightB B M = true) (h3 : (n : Int) ≤ M) : Calls Tryd.prog 40 #[pfx A n, pfx B M] w fun e w' => e = .returned (.bool (covB A n B M)) ∧ Below w.heap.size w w' := by
  have HR := hide h
  have HR2 := hide h2
  have HL := hide h3
  have d3 : decide (M < (n : Int)) = false := decide_eq_false (by omega)
  clear h h2 h3
  unfold pfx
  go_enter Tryd.func40, Tryd.ntmps40
  go_wp2_with fail
  refine (right_any A n _).mono ?_
  rw [HR.out]
  rintro e w1 ⟨rfl, hb⟩
  have HT := hide (two_cells hb)
  obtain ⟨⟨c0, c1, c2, c3⟩, _, hz⟩ := two_cells hb
  clear hb
  go_wp2_with fail
  refine (right_any B M _).mono ?_
  rw [HR2.out]
  rintro e w2 ⟨rfl, hb⟩
  have HT2 := hide (two_later HT.out hb)
  obtain ⟨⟨e0, e1, e2, e3⟩, _, hz2⟩ := two_later HT.out hb
  clear hb c0 c1 c2 c3
  go_wp2
  go_loopw [5] (fun i wq => ∃ k m : Nat, k ≤ n ∧ i = .int .i64 k ∧ Hid (cutTo A k = cutTo B k) ∧ Hid (wq = w2.drewN m)) (fun i _ => n - (intOf i).toNat)
  case atStart => exact ⟨0, 0, Nat.zero_le _, rfl, cut_zero A B hA hB, rfl⟩
  case round =>
    obtain ⟨k, m, hk, rfl, HE, HW⟩ := hrel
    have f0 : wr.cell? ⟨w.heap.size, 0, none⟩ = some (.int .u32 (A : Int)) := by rw [HW.out, cell_drewN]; exact e0
    have f1 : wr.cell? ⟨w.heap.size, 1, none⟩ = some (.int .i64 (n : Int)) := by rw [HW.out, cell_drewN]; exact e1
    have f2 : wr.cell? ⟨w.heap.size + 1, 0, none⟩ = some (.int .u32 (B : Int)) := by rw [HW.out, cell_drewN]; exact e2
    by_cases hlt : k < n
    · have hk32 : k < 32 := by omega
      by_cases h1 : bitAt A k = bitAt B k
      · have i1 : (((bitAt A k : Nat) : Int) != ((bitAt B k : Nat) : Int)) = false := by rw [h1]; simp
        have HG : Hid (cutTo A (k + 1) = cutTo B (k + 1)) := cov_go HE.out (by omega) h1
        clear h1
        go_wp2_with fail
        go_quiet ((go_at_call 49; exact Calls.quiet_of_same (bit_any _ _ _ hk32)))
        go_wp2
        exact ⟨⟨k + 1, m + nq, by omega, by go_num, HG, show wr.drewN nq = _ by rw [HW.out, drewN_more]⟩, by simp [intOf]; omega⟩
      · have i1 : (((bitAt A k : Nat) : Int) != ((bitAt B k : Nat) : Int)) = true := by simp; omega
        have HC : Hid (covB A n B M = false) := cov_no HR.out HR2.out HL.out HE.out hlt h1
        clear h1
        go_wp2_with fail
        go_quiet ((go_at_call 49; exact Calls.quiet_of_same (bit_any _ _ _ hk32)))
        go_wp2
        go_ret
        exact ⟨ret_bool HC.out.symm, by rw [HW.out]; exact below_drewN (below_drewN HT2.out.2.1 _) _⟩
    · have HC : Hid (covB A n B M = true) := cov_end HR.out HR2.out HL.out HE.out (by omega)
      go_wp2
      go_ret
      exact ⟨ret_bool HC.out.symm, by rw [HW.out]; exact below_drewN HT2.out.2.1 _⟩
theorem rcovers_any (A B : Nat) (L M : Int) (w : World) (hA : A < 4294967296) (hB : B < 4294967296) : Calls Tryd.prog 40 #[pfx A L, pfx B M] w fun e w' => e = .returned (.bool (covB A L B M)) ∧ Below w.heap.size w w' := by
  cases h : rightB A L with
  | false => exact rcovers_left A B L M w h
  | true =>
    cases h2 : rightB B M with
    | false => exact rcovers_right A B L M w h h2
    | true =>
      by_cases h3 : M < L
      · exact rcovers_len A B L M w h h2 h3
      · obtain ⟨n, rfl, hn, _⟩ := rightB_len h
        exact rcovers_in A B n M w hA hB hn h h2 (by omega)
end Go.Proofs.YthigjonagbfbbaaDoor
/- The document's Apply, GoodRules. -/
namespace Go.Proofs.YthigjonagbfbbaaDoor
open Go.RowKit
set_option maxRecDepth 100000

theorem rcov_is {A B : Nat} {L M : Int} {y : Bool} (w : World) (hA : A < 4294967296) (hB : B < 4294967296) (hy : covB A L B M = y) :
    Calls Tryd.prog 40 #[pfx A L, pfx B M] w fun e w' => e = .returned (.bool y) ∧ Below w.heap.size w w' := by
  rw [← hy]
  exact rcovers_any A B L M w hA hB
theorem rright_is {A : Nat} {L : Int} {b : Bool} (w : World) (h : rightB A L = b) : Calls Tryd.prog 33 #[pfx A L] w fun e w' => e = .returned (.bool b) ∧ Below w.heap.size w w' := by
  rw [← h]
  exact right_any A L w
/-- What stands at the beginning of a round. -/
structure ApSt (w wq : World) (P A : Nat) (L : Int) : Prop where
  b : Below w.heap.size w wq
  p0 : wq.cell? ⟨P, 0, none⟩ = some (.int .u32 (A : Int))
  p1 : wq.cell? ⟨P, 1, none⟩ = some (.int .i64 L)
theorem ApSt.later {w wq : World} {P A : Nat} {L : Int} (h : ApSt w wq P A L) (x : Later wq) : ApSt w x.w P A L :=
  ⟨h.b.trans (x.h.mono h.b.size), x.cell h.p0, x.cell h.p1⟩
set_option maxHeartbeats 1600000 in
theorem rapply_some (g o n c A : Nat) (L : Int) (l : List Rul) (w : World) (hn : n ≤ 1000) (hl : l.length = n) (hr : RulesRd w g o l) (hA : A < 4294967296) :
    Calls Tryd.prog 22 #[.slice (some ⟨g, o, none⟩) n c, pfx A L] w fun e w' => e = .returned (.tuple #[.int .i64 (applyR l A L).1, .bool (applyR l A L).2]) ∧ Below w.heap.size w w' := by
  have HL := hide hl
  have HR := hide hr
  clear hl hr
  unfold pfx
  go_enter Tryd.func22, Tryd.ntmps22
  go_wp2
  go_loopw [6] (fun i wq => ∃ j : Nat, j ≤ n ∧ i = .int .i64 j ∧ Hid (∀ (q : Nat) (r : Rul), q < j → l[q]? = some r → spk A L r = false) ∧ Hid (ApSt w wq w.heap.size A L)) (fun i _ => n - (intOf i).toNat)
  case atStart => exact ⟨0, Nat.zero_le _, rfl, fun q r hq => absurd hq (by omega), ⟨(Below.refl _ _).alloc (Nat.le_refl _) _, by simp [go_sem], by simp [go_sem]⟩⟩
  case round =>
    obtain ⟨j, hj, rfl, HA, HB⟩ := hrel
    by_cases hlt : j < n
    · obtain ⟨r, hr⟩ : ∃ r, l[j]? = some r := ⟨l[j]'(by rw [HL.out]; exact hlt), List.getElem?_eq_getElem _⟩
      obtain ⟨R0, hrA⟩ := HR.out j r hr
      have R := R0.below HB.out.b (Nat.le_refl _)
      have c0 := R.c0
      have c1 := R.c1
      have c2 := R.c2
      have c3 := R.c3
      have c4 := R.c4
      have c5 := R.c5
      have p0 := HB.out.p0
      have p1 := HB.out.p1
      have c0x : ∀ x : Later wr, x.w.cell? ⟨g, o + j * 6, none⟩ = some (.int .u32 (r.A : Int)) := fun x => x.cell c0
      have c1x : ∀ x : Later wr, x.w.cell? ⟨g, o + j * 6 + 1, none⟩ = some (.int .i64 r.L) := fun x => x.cell c1
      have c2x : ∀ x : Later wr, x.w.cell? ⟨g, o + j * 6 + 2, none⟩ = some (.int .i64 r.mn) := fun x => x.cell c2
      have c3x : ∀ x : Later wr, x.w.cell? ⟨g, o + j * 6 + 3, none⟩ = some (.int .i64 r.mx) := fun x => x.cell c3
      have p0x : ∀ x : Later wr, x.w.cell? ⟨w.heap.size, 0, none⟩ = some (.int .u32 (A : Int)) := fun x => x.cell p0
      have p1x : ∀ x : Later wr, x.w.cell? ⟨w.heap.size, 1, none⟩ = some (.int .i64 L) := fun x => x.cell p1
      have hk0 : (0 : Int) ≤ (j : Int) := Int.natCast_nonneg _
      have hk1 : (j : Int) < (n : Int) := by omega
      have HRJ := hide hr
      clear hr
      have hne := later_some wr
      cases hcv : covB r.A r.L A L with
      | true =>
        have HK : Hid (∀ x : Later wr, Calls Tryd.prog 40 #[.agg #[.int .u32 (r.A : Int), .int .i64 r.L], .agg #[.int .u32 (A : Int), .int .i64 L]] x.w fun e w' => e = .returned (.bool true) ∧ ∃ y : Later wr, w' = y.w) := fun x => calls_later x (rcov_is x.w hrA hA hcv)
        by_cases hmn : r.mn ≤ L
        · by_cases hmx : L ≤ r.mx
          · have hs : spk A L r = true := by unfold spk ftB; rw [hcv, decide_eq_true hmn, decide_eq_true hmx]; rfl
            have HV := hide (applyR_some HRJ.out hs HA.out)
            clear hs hcv
            go_wp2_with fail
            refine region_later (by kernel_rfl) (by kernel_rfl) ?_
            repeat (go_big_quiet_step (first | (go_at_call 40; with_reducible exact HK.out _)))
            refine wpQuiet_nil ?_
            rintro _ ⟨xq, rfl⟩
            have HX := hide (HB.out.later xq)
            have d4 := xq.cell c4
            have d5 := xq.cell c5
            clear c0x c1x c2x c3x p0x p1x c0 c1 c2 c3 c4 c5 p0 p1 HK hne R R0 HB
            generalize xq.w = w3 at *
            cases hd : r.d with
            | true =>
              rw [hd] at d4
              have HV2 : Hid (applyR l A L = (0, false)) := by show _ = _; rw [HV.out, hd]; rfl
              go_wp2
              exact bodyPost_ret (v := .tuple #[.int .i64 0, .bool false]) (by simp [results, Tryd.results22, go_sem]) rfl ⟨by rw [HV2.out], HX.out.b⟩
            | false =>
              rw [hd] at d4
              have HV2 : Hid (applyR l A L = (r.pf, true)) := by show _ = _; rw [HV.out, hd]; rfl
              go_wp2
              exact bodyPost_ret (v := .tuple #[.int .i64 r.pf, .bool true]) (by simp [results, Tryd.results22, go_sem]) rfl ⟨by rw [HV2.out], HX.out.b⟩
          · have hmx2 : decide (L ≤ r.mx) = false := decide_eq_false hmx
            have hs : spk A L r = false := by unfold spk ftB; rw [hmx2]; simp
            have HV : Hid (∀ (q : Nat) (r : Rul), q < j + 1 → l[q]? = some r → spk A L r = false) := none_more HA.out HRJ.out hs
            clear hs hcv hmx
            go_wp2_with fail
            refine region_later (by kernel_rfl) (by kernel_rfl) ?_
            repeat (go_big_quiet_step (first | (go_at_call 40; with_reducible exact HK.out _)))
            refine wpQuiet_nil ?_
            rintro _ ⟨xq, rfl⟩
            have HX := hide (HB.out.later xq)
            clear c0x c1x c2x c3x p0x p1x c0 c1 c2 c3 c4 c5 p0 p1 HK hne R R0 HB
            generalize xq.w = w3 at *
            go_wp2
            exact ⟨⟨j + 1, by omega, by go_num, HV, HX⟩, by simp [intOf]; omega⟩
        · have hmn2 : decide (r.mn ≤ L) = false := decide_eq_false hmn
          have hs : spk A L r = false := by unfold spk ftB; rw [hmn2]; simp
          have HV : Hid (∀ (q : Nat) (r : Rul), q < j + 1 → l[q]? = some r → spk A L r = false) := none_more HA.out HRJ.out hs
          clear hs hcv hmn
          go_wp2_with fail
          refine region_later (by kernel_rfl) (by kernel_rfl) ?_
          repeat (go_big_quiet_step (first | (go_at_call 40; with_reducible exact HK.out _)))
          refine wpQuiet_nil ?_
          rintro _ ⟨xq, rfl⟩
          have HX := hide (HB.out.later xq)
          clear c0x c1x c2x c3x p0x p1x c0 c1 c2 c3 c4 c5 p0 p1 HK hne R R0 HB
          generalize xq.w = w3 at *
          go_wp2
          exact ⟨⟨j + 1, by omega, by go_num, HV, HX⟩, by simp [intOf]; omega⟩
      | false =>
        have HK : Hid (∀ x : Later wr, Calls Tryd.prog 40 #[.agg #[.int .u32 (r.A : Int), .int .i64 r.L], .agg #[.int .u32 (A : Int), .int .i64 L]] x.w fun e w' => e = .returned (.bool false) ∧ ∃ y : Later wr, w' = y.w) := fun x => calls_later x (rcov_is x.w hrA hA hcv)
        have hs : spk A L r = false := by unfold spk; rw [hcv]; rfl
        have HV : Hid (∀ (q : Nat) (r : Rul), q < j + 1 → l[q]? = some r → spk A L r = false) := none_more HA.out HRJ.out hs
        clear hs hcv
        go_wp2_with fail
        refine region_later (by kernel_rfl) (by kernel_rfl) ?_
        repeat (go_big_quiet_step (first | (go_at_call 40; with_reducible exact HK.out _)))
        refine wpQuiet_nil ?_
        rintro _ ⟨xq, rfl⟩
        have HX := hide (HB.out.later xq)
        clear c0x c1x c2x c3x p0x p1x c0 c1 c2 c3 c4 c5 p0 p1 HK hne R R0 HB
        generalize xq.w = w3 at *
        go_wp2
        exact ⟨⟨j + 1, by omega, by go_num, HV, HX⟩, by simp [intOf]; omega⟩
    · have HV := hide (applyR_none (A := A) (L := L) (l := l) fun q r hr => HA.out q r (by have := (List.getElem?_eq_some_iff.1 hr).1; rw [HL.out] at this; omega) hr)
      go_wp2
      exact bodyPost_ret (v := .tuple #[.int .i64 (-1), .bool true]) (by simp [results, Tryd.results22, go_sem]) rfl ⟨by rw [HV.out], HB.out.b⟩
set_option maxHeartbeats 400000 in
theorem rapply_empty (a : Option Addr) (c A : Nat) (L : Int) (w : World) :
    Calls Tryd.prog 22 #[.slice a 0 c, pfx A L] w fun e w' => e = .returned (.tuple #[.int .i64 (-1), .bool true]) ∧ Below w.heap.size w w' := by
  unfold pfx
  go_enter Tryd.func22, Tryd.ntmps22
  go_wp2
  go_loopw [6] (fun i wq => i = .int .i64 0 ∧ Hid (Below w.heap.size w wq)) (fun i _ => 0 - (intOf i).toNat)
  case atStart => exact ⟨rfl, (Below.refl _ _).alloc (Nat.le_refl _) _⟩
  case round =>
    obtain ⟨rfl, HB⟩ := hrel
    go_wp2
    exact bodyPost_ret (v := .tuple #[.int .i64 (-1), .bool true]) (by simp [results, Tryd.results22, go_sem]) rfl ⟨rfl, HB.out⟩
theorem rapply_any (a : Option Addr) (n c A : Nat) (L : Int) (l : List Rul) (w : World) (hn : n ≤ 1000) (hl : l.length = n) (hr : RulesIn w a l) (hA : A < 4294967296) :
    Calls Tryd.prog 22 #[.slice a n c, pfx A L] w fun e w' => e = .returned (.tuple #[.int .i64 (applyR l A L).1, .bool (applyR l A L).2]) ∧ Below w.heap.size w w' := by
  rcases hr with h | ⟨g, o, e, h⟩
  · subst h
    simp at hl
    subst hl
    exact rapply_empty a c A L w
  · subst e
    exact rapply_some g o n c A L l w hn hl h hA
end Go.Proofs.YthigjonagbfbbaaDoor
