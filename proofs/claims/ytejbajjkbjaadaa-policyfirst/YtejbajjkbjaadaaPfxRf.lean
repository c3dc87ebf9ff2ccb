/- The document's Right, Less and Covers; the program's Compare. -/
import Derived.Test.YtejbajjkbjaadaaPfxCov
namespace Go.Proofs.Ytejbajjkbjaadaa
open Go.RowKit
set_option maxRecDepth 100000

set_option maxHeartbeats 400000 in
theorem right_out (A : Nat) (L : Int) (w : World) (h : L < 0 ∨ 32 < L) : Calls Try.prog 12 #[pfx A L] w fun e w' => e = .returned (.bool (rightB A L)) ∧ Below w.heap.size w w' := by
  have HR := hide (rightB_out A L h)
  unfold pfx
  by_cases h0 : L < 0
  · clear h
    go_enter Try.func12, Try.ntmps12
    go_wp2
    go_ret
    exact ⟨ret_bool HR.out.symm, (Below.refl _ _).alloc (Nat.le_refl _) _⟩
  · have h1 : 32 < L := by omega
    clear h
    go_enter Try.func12, Try.ntmps12
    go_wp2
    go_ret
    exact ⟨ret_bool HR.out.symm, (Below.refl _ _).alloc (Nat.le_refl _) _⟩
set_option maxHeartbeats 800000 in
theorem right_in (A n : Nat) (w : World) (hn : n ≤ 32) : Calls Try.prog 12 #[pfx A n] w fun e w' => e = .returned (.bool (rightB A n)) ∧ Below w.heap.size w w' := by
  unfold pfx
  have d0 : decide ((n : Int) < 0) = false := decide_eq_false (by omega)
  have d1 : decide ((32 : Int) < (n : Int)) = false := decide_eq_false (by omega)
  go_enter Try.func12, Try.ntmps12
  go_wp2
  go_loopw [3] (fun i wq => ∃ k : Nat, n ≤ k ∧ k ≤ 32 ∧ i = .int .i64 k ∧ Hid (cutTo A k = cutTo A n) ∧ wq = w.alloc (.cells #[.int .u32 (A : Int), .int .i64 (n : Int)] 25)) (fun i _ => 32 - (intOf i).toNat)
  case atStart => exact ⟨n, Nat.le_refl _, hn, rfl, rfl, rfl⟩
  case round =>
    obtain ⟨k, hk, hk2, rfl, HE, rfl⟩ := hrel
    by_cases hlt : k < 32
    · have hb := bitAt_lt A k
      by_cases h1 : bitAt A k = 1
      · have e1 : (((bitAt A k : Nat) : Int) == 1) = true := by rw [h1]; rfl
        have HR : Hid (rightB A n = false) := right_no hn HE.out hlt h1
        clear h1 hb
        go_wp2_with fail
        refine (bit_any A k _ hlt).mono ?_
        rintro e w' ⟨rfl, rfl⟩
        go_wp2
        go_ret
        exact ⟨ret_bool HR.out.symm, (Below.refl _ _).alloc (Nat.le_refl _) _⟩
      · have e1 : (((bitAt A k : Nat) : Int) == 1) = false := by rw [show bitAt A k = 0 from by omega]; rfl
        have HR : Hid (cutTo A (k + 1) = cutTo A n) := right_go HE.out hlt h1
        clear h1 hb
        go_wp2_with fail
        refine (bit_any A k _ hlt).mono ?_
        rintro e w' ⟨rfl, rfl⟩
        go_wp2
        exact ⟨⟨k + 1, by omega, by omega, by go_num, HR, trivial⟩, by simp [intOf]; omega⟩
    · have HR : Hid (rightB A n = true) := right_end hk HE.out (by omega)
      go_wp2
      go_ret
      exact ⟨ret_bool HR.out.symm, (Below.refl _ _).alloc (Nat.le_refl _) _⟩
theorem right_any (A : Nat) (L : Int) (w : World) : Calls Try.prog 12 #[pfx A L] w fun e w' => e = .returned (.bool (rightB A L)) ∧ Below w.heap.size w w' := by
  by_cases h : L < 0 ∨ 32 < L
  · exact right_out A L w h
  · obtain ⟨n, rfl⟩ := Int.eq_ofNat_of_zero_le (show 0 ≤ L by omega)
    exact right_in A n w (by omega)
/-- Is A/L ahead of B/M? -/
def lessB (A : Nat) (L : Int) (B : Nat) (M : Int) : Bool := decide (A < B ∨ (A = B ∧ L < M))
set_option maxHeartbeats 800000 in
theorem rcovers_left (A B : Nat) (L M : Int) (w : World) (h : rightB A L = false) : Calls Try.prog 11 #[pfx A L, pfx B M] w fun e w' => e = .returned (.bool (covB A L B M)) ∧ Below w.heap.size w w' := by
  have HR := hide h
  have HC : Hid (covB A L B M = false) := covB_left h
  clear h
  unfold pfx
  go_enter Try.func11, Try.ntmps11
  go_wp2_with fail
  refine (right_any A L _).mono ?_
  rw [HR.out]
  rintro e w1 ⟨rfl, hb⟩
  have HB := hide hb
  clear hb
  go_wp2
  go_ret
  exact ⟨ret_bool HC.out.symm, (((Below.refl _ _).alloc (Nat.le_refl _) _).alloc (by simp) _).trans (HB.out.mono (by simp <;> omega))⟩
theorem cut_zero (A B : Nat) (hA : A < 4294967296) (hB : B < 4294967296) : cutTo A 0 = cutTo B 0 := by rw [cutTo_none A hA, cutTo_none B hB]
theorem two_cells {w w1 : World} {A B : Nat} {L M : Int} {t : TypeId} (hb : Below ((w.alloc (.cells #[.int .u32 (A : Int), .int .i64 L] t)).alloc (.cells #[.int .u32 (B : Int), .int .i64 M] t)).heap.size ((w.alloc (.cells #[.int .u32 (A : Int), .int .i64 L] t)).alloc (.cells #[.int .u32 (B : Int), .int .i64 M] t)) w1) :
    (w1.cell? ⟨w.heap.size, 0, none⟩ = some (.int .u32 (A : Int)) ∧ w1.cell? ⟨w.heap.size, 1, none⟩ = some (.int .i64 L) ∧ w1.cell? ⟨w.heap.size + 1, 0, none⟩ = some (.int .u32 (B : Int)) ∧ w1.cell? ⟨w.heap.size + 1, 1, none⟩ = some (.int .i64 M)) ∧ Below w.heap.size w w1 ∧ w.heap.size + 1 < w1.heap.size := by
  refine ⟨⟨?_, ?_, ?_, ?_⟩, (((Below.refl _ _).alloc (Nat.le_refl _) _).alloc (by simp) _).trans (hb.mono (by simp <;> omega)), by have := hb.size; simp at this; omega⟩
  · rw [hb.cell (p := ⟨w.heap.size, 0, none⟩) (by simp <;> omega)]; simp [go_sem]
  · rw [hb.cell (p := ⟨w.heap.size, 1, none⟩) (by simp <;> omega)]; simp [go_sem]
  · rw [hb.cell (p := ⟨w.heap.size + 1, 0, none⟩) (by simp <;> omega)]; simp [go_sem]
  · rw [hb.cell (p := ⟨w.heap.size + 1, 1, none⟩) (by simp <;> omega)]; simp [go_sem]
theorem two_later {w w1 w2 : World} {A B : Nat} {L M : Int} (h : (w1.cell? ⟨w.heap.size, 0, none⟩ = some (.int .u32 (A : Int)) ∧ w1.cell? ⟨w.heap.size, 1, none⟩ = some (.int .i64 L) ∧ w1.cell? ⟨w.heap.size + 1, 0, none⟩ = some (.int .u32 (B : Int)) ∧ w1.cell? ⟨w.heap.size + 1, 1, none⟩ = some (.int .i64 M)) ∧ Below w.heap.size w w1 ∧ w.heap.size + 1 < w1.heap.size)
    (hb : Below w1.heap.size w1 w2) : (w2.cell? ⟨w.heap.size, 0, none⟩ = some (.int .u32 (A : Int)) ∧ w2.cell? ⟨w.heap.size, 1, none⟩ = some (.int .i64 L) ∧ w2.cell? ⟨w.heap.size + 1, 0, none⟩ = some (.int .u32 (B : Int)) ∧ w2.cell? ⟨w.heap.size + 1, 1, none⟩ = some (.int .i64 M)) ∧ Below w.heap.size w w2 ∧ w.heap.size + 1 < w2.heap.size := by
  obtain ⟨⟨h0, h1, h2, h3⟩, h4, h5⟩ := h
  have := hb.size
  exact ⟨⟨by rw [hb.cell (p := ⟨w.heap.size, 0, none⟩) (by simp <;> omega)]; exact h0, by rw [hb.cell (p := ⟨w.heap.size, 1, none⟩) (by simp <;> omega)]; exact h1, by rw [hb.cell (p := ⟨w.heap.size + 1, 0, none⟩) (by simp <;> omega)]; exact h2, by rw [hb.cell (p := ⟨w.heap.size + 1, 1, none⟩) (by simp <;> omega)]; exact h3⟩, h4.trans (hb.mono h4.size), by omega⟩
set_option maxHeartbeats 800000 in
theorem rcovers_right (A B : Nat) (L M : Int) (w : World) (h : rightB A L = true) (h2 : rightB B M = false) : Calls Try.prog 11 #[pfx A L, pfx B M] w fun e w' => e = .returned (.bool (covB A L B M)) ∧ Below w.heap.size w w' := by
  have HR := hide h
  have HR2 := hide h2
  have HC : Hid (covB A L B M = false) := covB_right h2
  clear h h2
  unfold pfx
  go_enter Try.func11, Try.ntmps11
  go_wp2_with fail
  refine (right_any A L _).mono ?_
  rw [HR.out]
  rintro e w1 ⟨rfl, hb⟩
  have HT := hide (two_cells hb)
  obtain ⟨⟨c0, c1, c2, c3⟩, _, hz⟩ := two_cells hb
  clear hb
  go_wp2_with fail
  refine (right_any B M _).mono ?_
  rw [HR2.out]
  rintro e w2 ⟨rfl, hb⟩
  have HT2 := hide (two_later HT.out hb)
  clear hb
  go_wp2
  go_ret
  exact ⟨ret_bool HC.out.symm, HT2.out.2.1⟩
set_option maxHeartbeats 800000 in
theorem rcovers_len (A B : Nat) (L M : Int) (w : World) (h : rightB A L = true) (h2 : rightB B M = true) (h3 : M < L) : Calls Try.prog 11 #[pfx A L, pfx B M] w fun e w' => e = .returned (.bool (covB A L B M)) ∧ Below w.heap.size w w' := by
  have HR := hide h
  have HR2 := hide h2
  have HC : Hid (covB A L B M = false) := covB_len (by omega)
  clear h h2
  unfold pfx
  go_enter Try.func11, Try.ntmps11
  go_wp2_with fail
  refine (right_any A L _).mono ?_
  rw [HR.out]
  rintro e w1 ⟨rfl, hb⟩
  have HT := hide (two_cells hb)
  obtain ⟨⟨c0, c1, c2, c3⟩, _, hz⟩ := two_cells hb
  clear hb
  go_wp2_with fail
  refine (right_any B M _).mono ?_
  rw [HR2.out]
  rintro e w2 ⟨rfl, hb⟩
  have HT2 := hide (two_later HT.out hb)
  obtain ⟨⟨e0, e1, e2, e3⟩, _, hz2⟩ := two_later HT.out hb
  clear hb c0 c1 c2 c3
  go_wp2
  go_ret
  exact ⟨ret_bool HC.out.symm, HT2.out.2.1⟩
set_option maxHeartbeats 1600000 in
theorem rcovers_in (A B n : Nat) (M : Int) (w : World) (hA : A < 4294967296) (hB : B < 4294967296) (hn : n ≤ 32) (h : rightB A n = true) (h2 : rightB B M = true) (h3 : (n : Int) ≤ M) : Calls Try.prog 11 #[pfx A n, pfx B M] w fun e w' => e = .returned (.bool (covB A n B M)) ∧ Below w.heap.size w w' := by
  have HR := hide h
  have HR2 := hide h2
  have HL := hide h3
  have d3 : decide (M < (n : Int)) = false := decide_eq_false (by omega)
  clear h h2 h3
  unfold pfx
  go_enter Try.func11, Try.ntmps11
  go_wp2_with fail
  refine (right_any A n _).mono ?_
  rw [HR.out]
  rintro e w1 ⟨rfl, hb⟩
  have HT := hide (two_cells hb)
  obtain ⟨⟨c0, c1, c2, c3⟩, _, hz⟩ := two_cells hb
  clear hb
  go_wp2_with fail
  refine (right_any B M _).mono ?_
  rw [HR2.out]
  rintro e w2 ⟨rfl, hb⟩
  have HT2 := hide (two_later HT.out hb)
  obtain ⟨⟨e0, e1, e2, e3⟩, _, hz2⟩ := two_later HT.out hb
  clear hb c0 c1 c2 c3
  go_wp2
  go_loopw [5] (fun i wq => ∃ k m : Nat, k ≤ n ∧ i = .int .i64 k ∧ Hid (cutTo A k = cutTo B k) ∧ Hid (wq = w2.drewN m)) (fun i _ => n - (intOf i).toNat)
  case atStart => exact ⟨0, 0, Nat.zero_le _, rfl, cut_zero A B hA hB, rfl⟩
  case round =>
    obtain ⟨k, m, hk, rfl, HE, HW⟩ := hrel
    have f0 : wr.cell? ⟨w.heap.size, 0, none⟩ = some (.int .u32 (A : Int)) := by rw [HW.out, cell_drewN]; exact e0
    have f1 : wr.cell? ⟨w.heap.size, 1, none⟩ = some (.int .i64 (n : Int)) := by rw [HW.out, cell_drewN]; exact e1
    have f2 : wr.cell? ⟨w.heap.size + 1, 0, none⟩ = some (.int .u32 (B : Int)) := by rw [HW.out, cell_drewN]; exact e2
    by_cases hlt : k < n
    · have hk32 : k < 32 := by omega
      by_cases h1 : bitAt A k = bitAt B k
      · have i1 : (((bitAt A k : Nat) : Int) != ((bitAt B k : Nat) : Int)) = false := by rw [h1]; simp
        have HG : Hid (cutTo A (k + 1) = cutTo B (k + 1)) := cov_go HE.out (by omega) h1
        clear h1
        go_wp2_with fail
        go_quiet ((go_at_call 18; exact Calls.quiet_of_same (bit_any _ _ _ hk32)))
        go_wp2
        exact ⟨⟨k + 1, m + nq, by omega, by go_num, HG, show wr.drewN nq = _ by rw [HW.out, drewN_more]⟩, by simp [intOf]; omega⟩
      · have i1 : (((bitAt A k : Nat) : Int) != ((bitAt B k : Nat) : Int)) = true := by simp; omega
        have HC : Hid (covB A n B M = false) := cov_no HR.out HR2.out HL.out HE.out hlt h1
        clear h1
        go_wp2_with fail
        go_quiet ((go_at_call 18; exact Calls.quiet_of_same (bit_any _ _ _ hk32)))
        go_wp2
        go_ret
        exact ⟨ret_bool HC.out.symm, by rw [HW.out]; exact below_drewN (below_drewN HT2.out.2.1 _) _⟩
    · have HC : Hid (covB A n B M = true) := cov_end HR.out HR2.out HL.out HE.out (by omega)
      go_wp2
      go_ret
      exact ⟨ret_bool HC.out.symm, by rw [HW.out]; exact below_drewN HT2.out.2.1 _⟩
theorem rcovers_any (A B : Nat) (L M : Int) (w : World) (hA : A < 4294967296) (hB : B < 4294967296) : Calls Try.prog 11 #[pfx A L, pfx B M] w fun e w' => e = .returned (.bool (covB A L B M)) ∧ Below w.heap.size w w' := by
  cases h : rightB A L with
  | false => exact rcovers_left A B L M w h
  | true =>
    cases h2 : rightB B M with
    | false => exact rcovers_right A B L M w h h2
    | true =>
      by_cases h3 : M < L
      · exact rcovers_len A B L M w h h2 h3
      · obtain ⟨n, rfl, hn, _⟩ := rightB_len h
        exact rcovers_in A B n M w hA hB hn h h2 (by omega)
end Go.Proofs.Ytejbajjkbjaadaa
