/- The document's Same and Fill. -/
import Derived.Test.YtbecchoidglaeaaGFlush
import Derived.Deep.QuietTactic
import Derived.BigQuiet
namespace Go.Proofs.Ytbecchoidglaeaa
open Go.RowKit
set_option maxRecDepth 100000

set_option maxHeartbeats 400000 in
theorem same_some (b1 o1 b2 o2 len c1 c2 : Nat) (f : Nat → Nat) (w : World) (hm : len ≤ maxLen)
    (h1 : ∀ i, i < len → w.cell? ⟨b1, o1 + i, none⟩ = some (.int .u8 (f i : Int))) (h2 : ∀ i, i < len → w.cell? ⟨b2, o2 + i, none⟩ = some (.int .u8 (f i : Int))) :
    Calls Try.prog 39 #[.slice (some ⟨b1, o1, none⟩) len c1, .slice (some ⟨b2, o2, none⟩) len c2] w fun e w' => e = .returned (.bool true) ∧ Below w.heap.size w w' := by
  unfold maxLen at hm
  have H1 := hide h1
  have H2 := hide h2
  clear h1 h2
  go_enter Try.func39, Try.ntmps39
  go_wp2
  go_loopw [5] (fun i wq => ∃ k : Nat, k ≤ len ∧ i = .int .i64 k ∧ Below w.heap.size w wq ∧ wq.heap = w.heap) (fun i _ => len - (intOf i).toNat)
  case atStart => exact ⟨0, Nat.zero_le _, rfl, Below.refl _ _, rfl⟩
  case round =>
    obtain ⟨k, hk, rfl, hb, hw⟩ := hrel
    have HB := hide hb
    have HW := hide hw
    clear hb hw
    by_cases hlt : k < len
    · have c1 : wr.cell? ⟨b1, o1 + k, none⟩ = some (.int .u8 (f k : Int)) := by
        rw [World.cell?_of_block (w := w) (by rw [HW.out])]; exact H1.out k hlt
      have c2 : wr.cell? ⟨b2, o2 + k, none⟩ = some (.int .u8 (f k : Int)) := by
        rw [World.cell?_of_block (w := w) (by rw [HW.out])]; exact H2.out k hlt
      have hk0 : (0 : Int) ≤ (k : Int) := Int.natCast_nonneg _
      have hk1 : (k : Int) < (len : Int) := by omega
      go_wp2_with fail
      go_quiet (fail)
      go_wp2
      exact ⟨⟨k + 1, by omega, by go_num, ⟨HB.out.os, HB.out.tape, HB.out.output, HB.out.size, HB.out.block⟩, HW.out⟩, by simp [intOf]; omega⟩
    · go_wp2
      go_ret
      exact ⟨rfl, HB.out⟩
set_option maxHeartbeats 400000 in
theorem same_empty (a1 a2 : Option Addr) (c1 c2 : Nat) (w : World) :
    Calls Try.prog 39 #[.slice a1 0 c1, .slice a2 0 c2] w fun e w' => e = .returned (.bool true) ∧ Below w.heap.size w w' := by
  go_enter Try.func39, Try.ntmps39
  go_wp2
  go_loopw [5] (fun i wq => i = .int .i64 0 ∧ wq = w) (fun i _ => 0 - (intOf i).toNat)
  case atStart => exact ⟨rfl, rfl⟩
  case round =>
    obtain ⟨rfl, rfl⟩ := hrel
    go_wp2
    go_ret
    exact ⟨rfl, Below.refl _ _⟩
theorem same_any (a1 a2 : Option Addr) (len c1 c2 : Nat) (f g : Nat → Nat) (w : World) (h1 : Rw w a1 len f) (h2 : Rw w a2 len g) (hfg : ∀ i, i < len → f i = g i) :
    Calls Try.prog 39 #[.slice a1 len c1, .slice a2 len c2] w fun e w' => e = .returned (.bool true) ∧ Below w.heap.size w w' := by
  by_cases h0 : len = 0
  · subst h0; exact same_empty a1 a2 c1 c2 w
  · obtain ⟨b1, o1, rfl, hc1⟩ := h1.2 (by omega)
    obtain ⟨b2, o2, rfl, hc2⟩ := (h2.congr (g := f) fun i hi => (hfg i hi).symm).2 (by omega)
    exact same_some b1 o1 b2 o2 len c1 c2 f w h1.1 hc1 hc2

theorem Try.infoU8 : (Try.prog.info? 5).map (fun i => (i.zero, i.size, i.bytes)) = some (some (.int .u8 0), 1, 1) := by kernel_rfl
theorem run_make_bytes (n : Nat) (hn : n ≤ 100000) (w : World) : (Instr.makeSlice 37 (.int .i64 (n : Int)) (.int .i64 (n : Int))).run Try.prog w =
    .ok (.slice (some ⟨w.heap.size, 0, none⟩) n n) (w.alloc (.cells (valsOf (fun _ => 0) n).toArray 5)) := by
  obtain ⟨i0, hi0, hz0, hz1, hz2⟩ := info_parts Try.infoU8
  have := run_make (P := Try.prog) w 37 5 i0 _ Try.underlying37 hi0 hz0 .i64 .i64 (n : Int) (n : Int) (by omega) (Int.le_refl _) (by rw [hz2]; omega) (by omega)
  simp only [Int.toNat_natCast, hz1, Value.cells, Nat.mul_one] at this
  rw [this]
  congr 3
  apply Array.ext_getElem?
  intro k
  by_cases hk : k < n
  · simp [madeCells, valsOf, hk, Nat.mod_one]
  · simp [madeCells, valsOf, hk]
theorem vals_fill (f : Nat → Nat) (len n : Nat) (hl : len ≤ n) : (valsOf (fun _ => 0) n).take 0 ++ valsOf f len ++ (valsOf (fun _ => 0) n).drop (0 + len) = valsOf (fill f len) n := by
  simp only [List.take_zero, List.nil_append, Nat.zero_add]
  apply List.ext_getElem?
  intro m
  by_cases hm : m < len
  · rw [List.getElem?_append_left (by rw [valsOf_length]; exact hm), valsOf_get _ _ _ hm, valsOf_get _ _ _ (by omega)]
    simp [fill, hm]
  · rw [List.getElem?_append_right (by rw [valsOf_length]; omega), valsOf_length, List.getElem?_drop, show len + (m - len) = m from by omega]
    by_cases h64 : m < n
    · rw [valsOf_get _ _ _ h64, valsOf_get _ _ _ h64]; simp [fill, hm]
    · rw [List.getElem?_eq_none (by rw [valsOf_length]; omega), List.getElem?_eq_none (by rw [valsOf_length]; omega)]
theorem run_copy_new (w : World) (n : Nat) (a : Option Addr) (len cap : Nat) (f : Nat → Nat) (ty : TypeId) (hl : len ≤ n) (h : Rw w a len f) :
    (Builtin.copy_ #[37, 37] ty #[.slice (some ⟨w.heap.size, 0, none⟩) n n, .slice a len cap]).run Try.prog (w.alloc (.cells (valsOf (fun _ => 0) n).toArray 5)) =
      .ok (goInt (len : Int)) (w.alloc (.cells (valsOf (fill f len) n).toArray 5)) := by
  by_cases h0 : len = 0
  · subst h0
    have := run_copy_none (P := Try.prog) (w.alloc (.cells (valsOf (fun _ => 0) n).toArray 5)) 37 37 ty 5 (some ⟨w.heap.size, 0, none⟩) a n n 0 cap Try.underlying37 Try.size5 (by simp)
    rw [this, show fill f 0 = (fun _ => 0) from by funext j; simp [fill]]
    rfl
  · obtain ⟨b, off, rfl, hc⟩ := h.2 (by omega)
    have := run_copy_row (P := Try.prog) (w.alloc (.cells (valsOf (fun _ => 0) n).toArray 5)) 37 37 ty 5 w.heap.size 0 n n ⟨b, off, none⟩ len cap _ 5 (valsOf f len) Try.underlying37 Try.size5 (heap_alloc_last w _)
      (by rw [valsOf_length]; simp [Nat.min_eq_left hl]) (fun j v hv => by
        have hj : j < len := by simpa [valsOf_length] using (List.getElem?_eq_some_iff.1 hv).1
        rw [valsOf_get _ _ _ hj] at hv
        rw [Addr.add_mid, World.cell?_alloc_lt _ _ _ (World.block_lt_of_cell? w _ (hc j hj)), hc j hj, hv]) (by simp [valsOf_length]; omega) (valsOf_one f len)
    rw [this, World.setRow_alloc_new, valsOf_length]
    congr 3
    exact congrArg List.toArray (vals_fill f len n hl)
theorem rw_new (w : World) (f : Nat → Nat) (n : Nat) (hn : n ≤ 100000) (t : TypeId) : Rw (w.alloc (.cells (valsOf f n).toArray t)) (some ⟨w.heap.size, 0, none⟩) n f := by
  refine ⟨by unfold maxLen; omega, fun _ => ⟨w.heap.size, 0, rfl, fun i hi => ?_⟩⟩
  rw [World.cell?_alloc_mark]
  simp [valsOf, hi]
set_option maxRecDepth 100000 in
set_option maxHeartbeats 400000 in
theorem fill_any (a : Option Addr) (len cap : Nat) (f : Nat → Nat) (w : World) (hl : len ≤ 64) (h : Rw w a len f) :
    Calls Try.prog 58 #[.slice a len cap] w fun e w' => ∃ b, e = .returned (.slice (some ⟨b, 0, none⟩) 64 64) ∧ Rw w' (some ⟨b, 0, none⟩) 64 (fill f len) ∧ w.heap.size ≤ b ∧ Below w.heap.size w w' := by
  have hmk : ∀ w, (Instr.makeSlice 37 (.int .i64 64) (.int .i64 64)).run Try.prog w = .ok (.slice (some ⟨w.heap.size, 0, none⟩) 64 64) (w.alloc (.cells (valsOf (fun _ => 0) 64).toArray 5)) := fun w => run_make_bytes 64 (by omega) w
  have H := hide h
  clear h
  go_enter Try.func58, Try.ntmps58
  go_wp2_with ((with_reducible refine wpl_copy _ _ 37 37 (.slice (some ⟨w.heap.size, 0, none⟩) 64 64) (.slice a len cap) _ ?_ ?_ (run_copy_new w 64 a len cap f _ hl H.out) ?_); (· rfl); (· rfl))
  go_ret
  exact ⟨_, rfl, rw_new w _ 64 (by omega) _, Nat.le_refl _, (Below.refl _ _).alloc (Nat.le_refl _) _⟩
end Go.Proofs.Ytbecchoidglaeaa
/- A disk beside other memory of the call: its functions turn none but its own blocks. -/
namespace Go.Proofs.Ytbecchoidglaeaa
open Go.RowKit
set_option maxRecDepth 100000

/-- Only the blocks F are turned; what is F' now was F, or is new. -/
def Step (F F' : Nat → Prop) (w w' : World) : Prop := Keeps F w w' ∧ ∀ b, F' b → F b ∨ w.heap.size ≤ b
theorem Step.below {F F' : Nat → Prop} {w w' : World} (h : Step F F' w w') {B : Nat} (hB : B ≤ w.heap.size) (hF : ∀ b, F b → B ≤ b) : Below B w w' ∧ (∀ b, F' b → B ≤ b) ∧ B ≤ w'.heap.size :=
  ⟨h.1.below B hB hF, fun b hb => by rcases h.2 b hb with h1 | h1; exact hF b h1; omega, Nat.le_trans hB h.1.size⟩
theorem Step.other {F F' : Nat → Prop} {w w' : World} (h : Step F F' w w') {b : Nat} (hb : b < w.heap.size) (hn : ¬ F b) : w'.heap[b]? = w.heap[b]? ∧ ¬ F' b ∧ b < w'.heap.size :=
  ⟨h.1.block b hb hn, fun hf => by rcases h.2 b hf with h1 | h1; exact hn h1; omega, Nat.lt_of_lt_of_le hb h.1.size⟩
theorem Disk.later {w w' : World} {D : Nat} {s : St} {F : Nat → Prop} (h : Disk w D s F) (hb : Below w.heap.size w w') : Disk w' D s F := h.keeps (G := fun _ => False) (Keeps.of_below hb _) (fun _ _ h => h)
theorem Disk.alloc {w : World} {D : Nat} {s : St} {F : Nat → Prop} (h : Disk w D s F) (o : Obj) : Disk (w.alloc o) D s F := h.later ((Below.refl _ _).alloc (Nat.le_refl _) o)
theorem Disk.own {w : World} {D : Nat} {s : St} {F : Nat → Prop} (h : Disk w D s F) {B : Nat} (hB : B ≤ w.heap.size) (hF : ∀ b, F b → B ≤ b) : Own B w D s := by
  obtain ⟨N, L, v, h, rfl⟩ := h
  exact ⟨hB, N, L, v, h, hF⟩
theorem Disk.D {w : World} {D : Nat} {s : St} {F : Nat → Prop} (h : Disk w D s F) : F D ∧ D < w.heap.size := by
  obtain ⟨N, L, v, h, rfl⟩ := h
  exact ⟨.inl rfl, h.lt⟩
theorem disk_of {w w' : World} {D N L : Nat} {v v' : Value} {s' : St} {G : Nat → Prop} (h' : DiskIn w' D N L v' s') (hk : Keeps G w w') (hG : ∀ b, G b → foot D N L v b)
    (hv : ∀ b, v'.ownBlock = some b → v.ownBlock = some b ∨ w.heap.size ≤ b) : ∃ F', Disk w' D s' F' ∧ Step (foot D N L v) F' w w' := by
  refine ⟨foot D N L v', ⟨N, L, v', h', rfl⟩, hk.mono (fun b _ hb => hG b hb), fun b hb => ?_⟩
  rcases hb with e | e | e | e
  · exact .inl (.inl e)
  · exact .inl (.inr (.inl e))
  · exact .inl (.inr (.inr (.inl e)))
  · rcases hv b e with h1 | h1
    · exact .inl (.inr (.inr (.inr h1)))
    · exact .inr h1
section
variable {w : World} {D : Nat} {s : St} {F : Nat → Prop}
theorem disk_write (h : Disk w D s F) (i : Int) (hi0 : 0 ≤ i) (hi : i < s.n) (a : Option Addr) (len cap : Nat) (f : Nat → Nat) (hl : len ≤ 64) (hp : s.power = true)
    (hm : s.lo.length < 1000000) (hr : Rw w a len f) (ha : ∀ x, a = some x → 0 < len → x.block ≠ D) :
    Calls Try.prog 28 #[.pointer (some ⟨D, 0, none⟩), .int .i64 i, .slice a len cap] w fun e w' =>
      e = .returned (.int .i64 0) ∧ ∃ F', Disk w' D (s.spent.write i.toNat (fill f len)) F' ∧ Step F F' w w' := by
  obtain ⟨i, rfl⟩ := Int.eq_ofNat_of_zero_le hi0
  obtain ⟨N, L, v, h, rfl⟩ := h
  refine (write_in h i (by omega) a len cap f hl hp hm hr ha).mono ?_
  rintro e w' ⟨rfl, v', h', hk, hv⟩
  exact ⟨rfl, disk_of h' hk (fun b hb => hb) hv⟩
theorem disk_write_down (h : Disk w D s F) (i : Int) (hi0 : 0 ≤ i) (hi : i < s.n) (a : Option Addr) (len cap : Nat) (hl : len ≤ 64) (hp : s.power = false) :
    Calls Try.prog 28 #[.pointer (some ⟨D, 0, none⟩), .int .i64 i, .slice a len cap] w fun e w' =>
      e = .returned (.int .i64 4) ∧ ∃ F', Disk w' D s.spent F' ∧ Step F F' w w' := by
  obtain ⟨i, rfl⟩ := Int.eq_ofNat_of_zero_le hi0
  obtain ⟨N, L, v, h, rfl⟩ := h
  refine (write_down h i (by omega) a len cap hl hp).mono ?_
  rintro e w' ⟨rfl, h', hk⟩
  exact ⟨rfl, disk_of h' hk (fun b hb => .inl hb) (fun b hb => .inl hb)⟩
theorem disk_write_bad (h : Disk w D s F) (i : Int) (a : Option Addr) (len cap : Nat) (hb : ¬ (0 ≤ i ∧ i < s.n) ∨ 64 < len) :
    Calls Try.prog 28 #[.pointer (some ⟨D, 0, none⟩), .int .i64 i, .slice a len cap] w fun e w' => e = .returned (.int .i64 1) ∧ w' = w := by
  obtain ⟨N, L, v, h, rfl⟩ := h
  exact write_bad h i a len cap hb
theorem disk_flush (h : Disk w D s F) (hp : s.power = true) :
    Calls Try.prog 29 #[.pointer (some ⟨D, 0, none⟩)] w fun e w' => e = .returned (.int .i64 0) ∧ ∃ F', Disk w' D s.spent.flush F' ∧ Step F F' w w' := by
  obtain ⟨N, L, v, h, rfl⟩ := h
  refine (flush_in h hp).mono ?_
  rintro e w' ⟨rfl, h', hk⟩
  exact ⟨rfl, disk_of h' hk (fun b hb => by rcases hb with e | e; exact .inl e; exact .inr (.inr (.inl e))) (fun b hb => by simp [Value.ownBlock] at hb)⟩
theorem disk_flush_down (h : Disk w D s F) (hp : s.power = false) :
    Calls Try.prog 29 #[.pointer (some ⟨D, 0, none⟩)] w fun e w' => e = .returned (.int .i64 4) ∧ ∃ F', Disk w' D s.spent F' ∧ Step F F' w w' := by
  obtain ⟨N, L, v, h, rfl⟩ := h
  refine (flush_down h hp).mono ?_
  rintro e w' ⟨rfl, h', hk⟩
  exact ⟨rfl, disk_of h' hk (fun b hb => .inl hb) (fun b hb => .inl hb)⟩
theorem disk_crash (h : Disk w D s F) (keep torn at_ : Int) (hk0 : 0 ≤ keep) (hkeep : keep < 18446744073709551616) (hat : -9223372036854775808 ≤ at_ ∧ at_ ≤ 9223372036854775807) :
    Calls Try.prog 20 #[.pointer (some ⟨D, 0, none⟩), .int .u64 keep, .int .i64 torn, .int .i64 at_] w fun e w' =>
      e = .returned (.tuple #[]) ∧ ∃ F', Disk w' D (s.crash keep.toNat torn at_) F' ∧ Step F F' w w' := by
  obtain ⟨keep, rfl⟩ := Int.eq_ofNat_of_zero_le hk0
  obtain ⟨N, L, v, h, rfl⟩ := h
  refine (crash_in h keep torn at_ (by omega) hat).mono ?_
  rintro e w' ⟨rfl, h', hk⟩
  exact ⟨rfl, disk_of h' hk (fun b hb => by rcases hb with e | e | e; exact .inl e; exact .inr (.inl e); exact .inr (.inr (.inl e))) (fun b hb => by simp [Value.ownBlock] at hb)⟩
theorem disk_fuse (h : Disk w D s F) (n : Int) (hn : n ≤ 9223372036854775807) :
    Calls Try.prog 19 #[.pointer (some ⟨D, 0, none⟩), .int .i64 n] w fun e w' => e = .returned (.tuple #[]) ∧ ∃ F', Disk w' D (s.fuse n) F' ∧ Step F F' w w' := by
  obtain ⟨N, L, v, h, rfl⟩ := h
  refine (fuse_in h n hn).mono ?_
  rintro e w' ⟨rfl, h', hk⟩
  exact ⟨rfl, disk_of h' hk (fun b hb => .inl hb) (fun b hb => .inl hb)⟩
theorem disk_read (h : Disk w D s F) (i : Int) (hi0 : 0 ≤ i) (hi : i < s.n) :
    Calls Try.prog 27 #[.pointer (some ⟨D, 0, none⟩), .int .i64 i] w fun e w' => ∃ b, e = .returned (.tuple #[.slice (some ⟨b, 0, none⟩) 64 64, .int .i64 0]) ∧ Rw w' (some ⟨b, 0, none⟩) 64 (s.now i.toNat) ∧ w.heap.size ≤ b ∧ Below w.heap.size w w' := by
  obtain ⟨i, rfl⟩ := Int.eq_ofNat_of_zero_le hi0
  obtain ⟨N, L, v, h, rfl⟩ := h
  refine (read_in h i (by omega)).mono ?_
  rintro e w' ⟨rfl, rfl⟩
  exact ⟨_, rfl, rw_page w _ _, Nat.le_refl _, (Below.refl _ _).alloc (Nat.le_refl _) _⟩
theorem disk_lasts (h : Disk w D s F) (i : Int) (hi0 : 0 ≤ i) (hi : i < s.n) :
    Calls Try.prog 54 #[.pointer (some ⟨D, 0, none⟩), .int .i64 i] w fun e w' => ∃ b, e = .returned (.tuple #[.slice (some ⟨b, 0, none⟩) 64 64, .int .i64 0]) ∧ Rw w' (some ⟨b, 0, none⟩) 64 (s.lasts i.toNat) ∧ w.heap.size ≤ b ∧ Below w.heap.size w w' := by
  obtain ⟨i, rfl⟩ := Int.eq_ofNat_of_zero_le hi0
  obtain ⟨N, L, v, h, rfl⟩ := h
  refine (lasts_in h i (by omega)).mono ?_
  rintro e w' ⟨rfl, rfl⟩
  exact ⟨_, rfl, rw_page w _ _, Nat.le_refl _, (Below.refl _ _).alloc (Nat.le_refl _) _⟩
theorem disk_len (h : Disk w D s F) : Calls Try.prog 31 #[.pointer (some ⟨D, 0, none⟩)] w fun e w' => e = .returned (.int .i64 (s.n : Int)) ∧ w' = w := by
  obtain ⟨N, L, v, h, rfl⟩ := h
  exact len_in h
theorem disk_loose (h : Disk w D s F) : Calls Try.prog 55 #[.pointer (some ⟨D, 0, none⟩)] w fun e w' => e = .returned (.int .i64 (s.lo.length : Int)) ∧ w' = w := by
  obtain ⟨N, L, v, h, rfl⟩ := h
  exact loose_in h
end
end Go.Proofs.Ytbecchoidglaeaa
