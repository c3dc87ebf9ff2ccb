/- A disk of the program in memory ('Disk'), and its small functions: within, Len, Loose, has, spend, Fuse, landing. -/
import Derived.Test.YtbecchoidglaeaaMem
import Derived.Laws.BitsAllLaws
namespace Go.Proofs.Ytbecchoidglaeaa
open Go.RowKit
set_option maxRecDepth 100000

/-- What a disk is, in plain numbers: n sectors; their bytes with and without what is loose; the loose Writes in order; its fuse. -/
structure St where
  n : Nat
  now : Nat → Nat → Nat
  lasts : Nat → Nat → Nat
  lo : List (Nat × (Nat → Nat))
  fused : Bool
  left : Nat
  down : Bool

/-- A loose Write's cells. -/
def wcl (x : Nat × (Nat → Nat)) : List Value := Value.int .i64 (x.1 : Int) :: valsOf x.2 64
def wrs (lo : List (Nat × (Nat → Nat))) : List Value := lo.flatMap wcl
theorem wr_length (x : Nat × (Nat → Nat)) : (wcl x).length = 65 := by simp [wcl, valsOf_length]
theorem wrs_length (lo : List (Nat × (Nat → Nat))) : (wrs lo).length = lo.length * 65 := by
  induction lo with
  | nil => rfl
  | cons x r ih => simp only [wrs, List.flatMap_cons, List.length_append, wr_length, List.length_cons] at *; omega
theorem wr_one (x : Nat × (Nat → Nat)) : ∀ u ∈ wcl x, u.oneCell' = true := by
  intro u hu
  rcases List.mem_cons.1 hu with rfl | hu
  · rfl
  · exact valsOf_one _ _ u hu
theorem wrs_snoc (lo : List (Nat × (Nat → Nat))) (x : Nat × (Nat → Nat)) : wrs (lo ++ [x]) = wrs lo ++ wcl x := by simp [wrs]
theorem wrs_get (lo : List (Nat × (Nat → Nat))) : ∀ (i j : Nat) (x : Nat × (Nat → Nat)), lo[i]? = some x → j < 65 → (wrs lo)[i * 65 + j]? = (wcl x)[j]? := by
  induction lo with
  | nil => intro i j x h; simp at h
  | cons y r ih =>
    intro i j x h hj
    have e : wrs (y :: r) = wcl y ++ wrs r := by simp [wrs]
    rw [e]
    cases i with
    | zero =>
      simp at h
      subst h
      rw [List.getElem?_append_left (by rw [wr_length]; omega), Nat.zero_mul, Nat.zero_add]
    | succ i =>
      rw [List.getElem?_append_right (by rw [wr_length]; omega), wr_length, show (i + 1) * 65 + j - 65 = i * 65 + j from by omega]
      exact ih i j x (by simpa using h) hj

structure DiskIn (w : World) (D N L : Nat) (v : Value) (s : St) : Prop where
  block : w.heap[D]? = some (.cells #[.slice (some ⟨N, 0, none⟩) s.n s.n, .slice (some ⟨L, 0, none⟩) s.n s.n, v, .bool s.fused, .int .i64 (s.left : Int), .bool s.down] 70 (0, 0))
  gn : Grid w N s.n s.now
  gl : Grid w L s.n s.lasts
  own : w.ownsRow 0 95 65 v s.lo.length (wrs s.lo)
  dn : D ≠ N
  dl : D ≠ L
  nl : N ≠ L
  vd : v.ownBlock ≠ some D
  vn : v.ownBlock ≠ some N
  vl : v.ownBlock ≠ some L
  nn : s.n ≤ 1024
  ats : ∀ x ∈ s.lo, x.1 < s.n
  many : s.lo.length ≤ 1000000
  small : s.left < 9223372036854775808

/-- The blocks of a disk. -/
def foot (D N L : Nat) (v : Value) : Nat → Prop := fun b => b = D ∨ b = N ∨ b = L ∨ v.ownBlock = some b
/-- The disk at block D is s; it lies in the blocks F. -/
def Disk (w : World) (D : Nat) (s : St) (F : Nat → Prop) : Prop := ∃ N L v, DiskIn w D N L v s ∧ F = foot D N L v

section
variable {w : World} {D N L : Nat} {v : Value} {s : St}
theorem DiskIn.c0 (h : DiskIn w D N L v s) : w.cell? ⟨D, 0, none⟩ = some (.slice (some ⟨N, 0, none⟩) s.n s.n) := by rw [cell_of_row w D 0 _ _ _ h.block]; rfl
theorem DiskIn.c1 (h : DiskIn w D N L v s) : w.cell? ⟨D, 1, none⟩ = some (.slice (some ⟨L, 0, none⟩) s.n s.n) := by rw [cell_of_row w D 1 _ _ _ h.block]; rfl
theorem DiskIn.c2 (h : DiskIn w D N L v s) : w.cell? ⟨D, 2, none⟩ = some v := by rw [cell_of_row w D 2 _ _ _ h.block]; rfl
theorem DiskIn.c3 (h : DiskIn w D N L v s) : w.cell? ⟨D, 3, none⟩ = some (.bool s.fused) := by rw [cell_of_row w D 3 _ _ _ h.block]; rfl
theorem DiskIn.c4 (h : DiskIn w D N L v s) : w.cell? ⟨D, 4, none⟩ = some (.int .i64 (s.left : Int)) := by rw [cell_of_row w D 4 _ _ _ h.block]; rfl
theorem DiskIn.c5 (h : DiskIn w D N L v s) : w.cell? ⟨D, 5, none⟩ = some (.bool s.down) := by rw [cell_of_row w D 5 _ _ _ h.block]; rfl
theorem DiskIn.fz (h : DiskIn w D N L v s) (i : Nat) : w.frozen? ⟨D, i, none⟩ = false := by simp [World.frozen?, h.block]
theorem DiskIn.lt (h : DiskIn w D N L v s) : D < w.heap.size := by
  rcases Nat.lt_or_ge D w.heap.size with hlt | hge
  · exact hlt
  · have := h.block; rw [Array.getElem?_eq_none hge] at this; cases this
/-- The value of the loose ones, written out. -/
theorem DiskIn.form (h : DiskIn w D N L v s) : ∃ a cap, v = .slice a s.lo.length cap ∧ s.lo.length ≤ cap ∧ (0 < s.lo.length → ∃ g, a = some ⟨g, 0, none⟩) := by
  rcases h.own.2 with ⟨e, h0⟩ | ⟨g, cap, cur, e, _, _, hc, _⟩
  · exact ⟨none, 0, by rw [e, h0], by omega, fun hp => by omega⟩
  · exact ⟨_, cap, e, hc, fun _ => ⟨g, rfl⟩⟩
theorem ownBlock_lt {w : World} {base e size : Nat} {v : Value} {n : Nat} {xs : List Value} (h : w.ownsRow base e size v n xs) (b : Nat) (hb : v.ownBlock = some b) : b < w.heap.size := by
  rcases h.2 with ⟨rfl, _⟩ | ⟨g, cap, cur, rfl, _, hg, _⟩
  · simp [Value.ownBlock] at hb
  · simp [Value.ownBlock] at hb
    subst hb
    rcases Nat.lt_or_ge g w.heap.size with hlt | hge
    · exact hlt
    · rw [Array.getElem?_eq_none hge] at hg; cases hg
theorem DiskIn.foot_lt (h : DiskIn w D N L v s) (b : Nat) (hb : foot D N L v b) : b < w.heap.size := by
  rcases hb with rfl | rfl | rfl | hb
  · exact h.lt
  · exact h.gn.1
  · exact h.gl.1
  · exact ownBlock_lt h.own b hb
/-- A disk stands where none of its blocks is turned. -/
theorem DiskIn.keeps (h : DiskIn w D N L v s) {F : Nat → Prop} {w' : World} (hk : Keeps F w w') (hn : ∀ b, foot D N L v b → ¬ F b) : DiskIn w' D N L v s :=
  { h with
    block := by rw [hk.block D h.lt (hn D (.inl rfl))]; exact h.block
    gn := h.gn.keeps hk (hn N (.inr (.inl rfl)))
    gl := h.gl.keeps hk (hn L (.inr (.inr (.inl rfl))))
    own := by
      refine ⟨h.own.1, ?_⟩
      rcases h.own.2 with hh | ⟨g, cap, cur, e, hb, hg, rest⟩
      · exact .inl hh
      · refine .inr ⟨g, cap, cur, e, hb, ?_, rest⟩
        have : v.ownBlock = some g := by rw [e]; rfl
        rw [hk.block g (ownBlock_lt h.own g this) (hn g (.inr (.inr (.inr this))))]
        exact hg }
end
theorem Disk.keeps {w w' : World} {D : Nat} {s : St} {F G : Nat → Prop} (h : Disk w D s F) (hk : Keeps G w w') (hn : ∀ b, F b → ¬ G b) : Disk w' D s F := by
  obtain ⟨N, L, v, h, rfl⟩ := h
  exact ⟨N, L, v, h.keeps hk hn, rfl⟩
theorem Disk.lt {w : World} {D : Nat} {s : St} {F : Nat → Prop} (h : Disk w D s F) (b : Nat) (hb : F b) : b < w.heap.size := by
  obtain ⟨N, L, v, h, rfl⟩ := h
  exact h.foot_lt b hb

theorem ret_int {k : IntKind} {a b : Int} (h : a = b) : Ending.returned (.int k a) = .returned (.int k b) := by rw [h]
theorem ret_bool {a b : Bool} (h : a = b) : Ending.returned (.bool a) = .returned (.bool b) := by rw [h]
/-- The number from 0 to m that is nearest to n. -/
def clamp (n m : Int) : Int := min (max n 0) m
set_option maxHeartbeats 400000 in
theorem within_any (n m : Int) (w : World) (hn : -9223372036854775808 ≤ n ∧ n ≤ 9223372036854775807) (hm : 0 ≤ m ∧ m ≤ 1000000) :
    Calls Try.prog 30 #[.int .i64 n, .int .i64 m] w fun e w' => e = .returned (.int .i64 (clamp n m)) ∧ w' = w := by
  go_enter Try.func30, Try.ntmps30
  go_wp2
  all_goals (go_ret; refine ⟨ret_int ?_, rfl⟩; unfold clamp; omega)

set_option maxHeartbeats 400000 in
theorem len_nil (w : World) : Calls Try.prog 31 #[.pointer none] w fun e w' => e = .returned (.int .i64 0) ∧ w' = w := by
  go_enter Try.func31, Try.ntmps31
  go_wp2
  go_ret
  exact ⟨rfl, rfl⟩
set_option maxHeartbeats 400000 in
theorem len_in {w : World} {D N L : Nat} {v : Value} {s : St} (h : DiskIn w D N L v s) : Calls Try.prog 31 #[.pointer (some ⟨D, 0, none⟩)] w fun e w' => e = .returned (.int .i64 (s.n : Int)) ∧ w' = w := by
  have c0 := h.c0
  clear h
  go_enter Try.func31, Try.ntmps31
  go_wp2
  go_ret
  exact ⟨rfl, rfl⟩
set_option maxHeartbeats 400000 in
theorem loose_nil (w : World) : Calls Try.prog 55 #[.pointer none] w fun e w' => e = .returned (.int .i64 0) ∧ w' = w := by
  go_enter Try.func55, Try.ntmps55
  go_wp2
  go_ret
  exact ⟨rfl, rfl⟩
set_option maxHeartbeats 400000 in
theorem loose_in {w : World} {D N L : Nat} {v : Value} {s : St} (h : DiskIn w D N L v s) : Calls Try.prog 55 #[.pointer (some ⟨D, 0, none⟩)] w fun e w' => e = .returned (.int .i64 (s.lo.length : Int)) ∧ w' = w := by
  have c2 := h.c2
  obtain ⟨a, cap, hv, _⟩ := h.form
  rw [hv] at c2
  clear hv h
  go_enter Try.func55, Try.ntmps55
  go_wp2
  go_ret
  exact ⟨rfl, rfl⟩
set_option maxHeartbeats 400000 in
theorem has_nil (i : Int) (w : World) : Calls Try.prog 59 #[.pointer none, .int .i64 i] w fun e w' => e = .returned (.bool false) ∧ w' = w := by
  by_cases h0 : 0 ≤ i
  · go_enter Try.func59, Try.ntmps59
    go_wp2_with fail
    refine (len_nil _).mono ?_
    rintro e w1 ⟨rfl, rfl⟩
    go_wp2
    go_ret
    exact ⟨by simp; omega, rfl⟩
  · go_enter Try.func59, Try.ntmps59
    go_wp2
    go_ret
    exact ⟨by simp, rfl⟩
set_option maxHeartbeats 400000 in
theorem has_in {w : World} {D N L : Nat} {v : Value} {s : St} (h : DiskIn w D N L v s) (i : Int) : Calls Try.prog 59 #[.pointer (some ⟨D, 0, none⟩), .int .i64 i] w fun e w' => e = .returned (.bool (decide (0 ≤ i ∧ i < s.n))) ∧ w' = w := by
  by_cases h0 : 0 ≤ i
  · go_enter Try.func59, Try.ntmps59
    go_wp2_with fail
    refine (len_in h).mono ?_
    rintro e w1 ⟨rfl, rfl⟩
    go_wp2
    go_ret
    exact ⟨by simp [h0], rfl⟩
  · go_enter Try.func59, Try.ntmps59
    go_wp2
    go_ret
    exact ⟨by simp; omega, rfl⟩
/-- A store into one of the disk's own six cells that leaves its three slices. -/
theorem DiskIn.fuseSet {w : World} {D N L : Nat} {v : Value} {s : St} (h : DiskIn w D N L v s) (f : Bool) (l : Nat) (dw : Bool) (hl : l < 9223372036854775808) (w' : World) (hk : Keeps (fun b => b = D) w w')
    (hb : w'.heap[D]? = some (.cells #[.slice (some ⟨N, 0, none⟩) s.n s.n, .slice (some ⟨L, 0, none⟩) s.n s.n, v, .bool f, .int .i64 (l : Int), .bool dw] 70 (0, 0))) :
    DiskIn w' D N L v { s with fused := f, left := l, down := dw } :=
  { h with
    block := hb
    gn := h.gn.keeps hk (Ne.symm h.dn)
    gl := h.gl.keeps hk (Ne.symm h.dl)
    own := by
      refine ⟨h.own.1, ?_⟩
      rcases h.own.2 with hh | ⟨g, cap, cur, e, hb, hg, rest⟩
      · exact .inl hh
      · refine .inr ⟨g, cap, cur, e, hb, ?_, rest⟩
        have e2 : v.ownBlock = some g := by rw [e]; rfl
        rw [hk.block g (ownBlock_lt h.own g e2) (fun e3 => by subst e3; exact h.vd e2)]
        exact hg
    small := hl }
theorem heap_set_at (w : World) (g o : Nat) (cur : Array Value) (t : TypeId) (fr : Nat × Nat) (v : Value) (hg : w.heap[g]? = some (.cells cur t fr)) :
    (w.setCell ⟨g, o, none⟩ v).heap[g]? = some (.cells (cur.setIfInBounds o v) t fr) := by
  rw [setCell_eq_setRow w g o cur t fr v hg]
  exact setRow_heap w g cur _ t fr hg

/-- Is there power for one more Write or Flush? -/
def St.power (s : St) : Bool := !s.down && (!s.fused || decide (s.left ≠ 0))
/-- One more is counted; or the power is gone. -/
def St.spent (s : St) : St := { s with left := if s.power && s.fused then s.left - 1 else s.left, down := !s.power }
set_option maxHeartbeats 400000 in
theorem spend_in {w : World} {D N L : Nat} {v : Value} {s : St} (h : DiskIn w D N L v s) : Calls Try.prog 61 #[.pointer (some ⟨D, 0, none⟩)] w fun e w' =>
    e = .returned (.bool s.power) ∧ DiskIn w' D N L v s.spent ∧ Keeps (fun b => b = D) w w' := by
  have H := hide h
  have c3 := h.c3
  have c4 := h.c4
  have c5 := h.c5
  have f4 := h.fz 4
  have f5 := h.fz 5
  have hs := h.small
  obtain ⟨n, now, lasts, lo, fused, left, down⟩ := s
  simp only [] at c3 c4 c5 hs
  clear h
  cases fused with
  | false =>
    cases down with
    | false =>
      go_enter Try.func61, Try.ntmps61
      go_wp2
      go_ret
      exact ⟨rfl, H.out, Keeps.refl _ _⟩
    | true =>
      go_enter Try.func61, Try.ntmps61
      go_wp2
      go_ret
      exact ⟨rfl, H.out, Keeps.refl _ _⟩
  | true =>
    by_cases h0 : left = 0
    · subst h0
      go_enter Try.func61, Try.ntmps61
      go_wp2
      go_ret
      have hb := heap_set_at w D 5 _ _ _ (.bool true) H.out.block
      have hd := H.out.fuseSet true 0 true (by omega) _ ((Keeps.refl _ _).setCell D 5 _ (.inl rfl)) hb
      refine ⟨ret_bool (by simp [St.power]), ?_, (Keeps.refl _ _).setCell D 5 _ (.inl rfl)⟩
      simpa [St.spent, St.power] using hd
    · have e0 : (((left : Nat) : Int) == 0) = false := by rw [beq_eq_false_iff_ne]; omega
      have hl : (0 : Int) < (left : Int) := by omega
      cases down with
      | true =>
        go_enter Try.func61, Try.ntmps61
        go_wp2
        go_ret
        exact ⟨rfl, H.out, Keeps.refl _ _⟩
      | false =>
        go_enter Try.func61, Try.ntmps61
        go_wp2
        go_ret
        refine ⟨ret_bool (by simp [St.power, h0]), ?_, (Keeps.refl _ _).setCell D 4 _ (.inl rfl)⟩
        have hb := heap_set_at w D 4 _ _ _ (.int .i64 ((left : Int) - 1)) H.out.block
        have hd := H.out.fuseSet true (left - 1) false (by omega) _ ((Keeps.refl _ _).setCell D 4 _ (.inl rfl)) (by
          rw [show (((left - 1 : Nat) : Int)) = (left : Int) - 1 from by omega]
          exact hb)
        simpa [St.spent, St.power, h0] using hd
set_option maxHeartbeats 400000 in
theorem fuse_nil (n : Int) (w : World) : Calls Try.prog 19 #[.pointer none, .int .i64 n] w fun e w' => e = .returned (.tuple #[]) ∧ w' = w := by
  go_enter Try.func19, Try.ntmps19
  go_wp2
  refine bodyPost_ret (results_none rfl _ _ _) rfl ?_
  exact ⟨rfl, rfl⟩
/-- Fuse(n). -/
def St.fuse (s : St) (n : Int) : St := { s with fused := true, left := n.toNat }
set_option maxHeartbeats 400000 in
theorem fuse_in {w : World} {D N L : Nat} {v : Value} {s : St} (h : DiskIn w D N L v s) (n : Int) (hn : n ≤ 9223372036854775807) : Calls Try.prog 19 #[.pointer (some ⟨D, 0, none⟩), .int .i64 n] w fun e w' =>
    e = .returned (.tuple #[]) ∧ DiskIn w' D N L v (s.fuse n) ∧ Keeps (fun b => b = D) w w' := by
  have H := hide h
  have c3 := h.c3
  have c4 := h.c4
  have f3 := h.fz 3
  have f4 := h.fz 4
  clear h
  have fin : ∀ m : Int, m = (n.toNat : Int) → DiskIn ((w.setCell ⟨D, 3, none⟩ (.bool true)).setCell ⟨D, 4, none⟩ (.int .i64 m)) D N L v (s.fuse n) := by
    intro m hm
    subst hm
    have hb := heap_set_at w D 3 _ _ _ (.bool true) H.out.block
    have hb2 := heap_set_at _ D 4 _ _ _ (.int .i64 (n.toNat : Int)) hb
    exact H.out.fuseSet true n.toNat s.down (by omega) _ (((Keeps.refl (fun b => b = D) w).setCell D 3 _ (.inl rfl)).setCell D 4 _ (.inl rfl)) hb2
  have HF := hide fin
  clear fin
  by_cases h0 : n < 0
  · go_enter Try.func19, Try.ntmps19
    go_wp2
    go_end0
    exact ⟨rfl, HF.out _ (by omega), ((Keeps.refl (fun b => b = D) w).setCell D 3 _ (.inl rfl)).setCell D 4 _ (.inl rfl)⟩
  · go_enter Try.func19, Try.ntmps19
    go_wp2
    go_end0
    exact ⟨rfl, HF.out _ (by omega), ((Keeps.refl (fun b => b = D) w).setCell D 3 _ (.inl rfl)).setCell D 4 _ (.inl rfl)⟩
theorem bit_and (keep k : Nat) (hk : keep < 18446744073709551616) : (bits .and .u64 ((keep : Int) / 2 ^ k) 1 != 0) = decide (keep / 2 ^ k % 2 = 1) := by
  have hd : keep / 2 ^ k ≤ keep := Nat.div_le_self _ _
  have := u64_and_nat (keep / 2 ^ k) 1 (by omega) (by omega)
  rw [Nat.and_one_is_mod] at this
  rw [show ((keep : Int) / 2 ^ k) = ((keep / 2 ^ k : Nat) : Int) from by norm_cast]
  rw [show (1 : Int) = ((1 : Nat) : Int) from rfl, this]
  rcases Nat.mod_two_eq_zero_or_one (keep / 2 ^ k) with h | h <;> rw [h] <;> decide
/-- How many bytes of loose Write i last behind Crash(keep, torn, at). -/
def lands (i keep : Nat) (torn at_ : Int) : Nat := if (i : Int) = torn then (clamp at_ 64).toNat else if keep / 2 ^ (i % 64) % 2 = 1 then 64 else 0
theorem lands_le (i keep : Nat) (torn at_ : Int) : lands i keep torn at_ ≤ 64 := by
  unfold lands clamp; split
  · omega
  · split <;> omega
set_option maxHeartbeats 400000 in
theorem landing_any (i keep : Nat) (torn at_ : Int) (w : World) (hi : i ≤ 1000000) (hk : keep < 18446744073709551616) (ha : -9223372036854775808 ≤ at_ ∧ at_ ≤ 9223372036854775807) :
    Calls Try.prog 53 #[.int .i64 (i : Int), .int .u64 (keep : Int), .int .i64 torn, .int .i64 at_] w fun e w' => e = .returned (.int .i64 (lands i keep torn at_ : Int)) ∧ w' = w := by
  by_cases h0 : (i : Int) = torn
  · have e0 : ((i : Int) == torn) = true := by rw [beq_iff_eq]; exact h0
    go_enter Try.func53, Try.ntmps53
    go_wp2_with fail
    refine (within_any _ _ _ ha (by omega)).mono ?_
    rintro e w1 ⟨rfl, rfl⟩
    go_wp2
    go_ret
    refine ⟨ret_int ?_, rfl⟩
    unfold lands
    rw [if_pos h0]
    unfold clamp
    omega
  · have e0 : ((i : Int) == torn) = false := by rw [beq_eq_false_iff_ne]; exact h0
    go_enter Try.func53, Try.ntmps53
    go_wp2
    all_goals go_ret
    · refine ⟨ret_int ?_, rfl⟩
      rename_i hb
      rw [bit_and _ (i % 64) hk] at hb
      unfold lands
      rw [if_neg h0, if_pos (by simpa using hb)]
      rfl
    · refine ⟨ret_int ?_, rfl⟩
      rename_i hb
      rw [bit_and _ (i % 64) hk] at hb
      unfold lands
      rw [if_neg h0, if_neg (by simpa using hb)]
      rfl
end Go.Proofs.Ytbecchoidglaeaa
