/- A disk beside other memory of the call: its functions turn none but its own blocks. -/
import Derived.Test.YtbecchoidglaeaaRef
namespace Go.Proofs.Ytbecchoidglaeaa
open Go.RowKit
set_option maxRecDepth 100000

/-- Only the blocks F are turned; what is F' now was F, or is new. -/
def Step (F F' : Nat → Prop) (w w' : World) : Prop := Keeps F w w' ∧ ∀ b, F' b → F b ∨ w.heap.size ≤ b
theorem Step.below {F F' : Nat → Prop} {w w' : World} (h : Step F F' w w') {B : Nat} (hB : B ≤ w.heap.size) (hF : ∀ b, F b → B ≤ b) : Below B w w' ∧ (∀ b, F' b → B ≤ b) ∧ B ≤ w'.heap.size :=
  ⟨h.1.below B hB hF, fun b hb => by rcases h.2 b hb with h1 | h1; exact hF b h1; omega, Nat.le_trans hB h.1.size⟩
theorem Step.other {F F' : Nat → Prop} {w w' : World} (h : Step F F' w w') {b : Nat} (hb : b < w.heap.size) (hn : ¬ F b) : w'.heap[b]? = w.heap[b]? ∧ ¬ F' b ∧ b < w'.heap.size :=
  ⟨h.1.block b hb hn, fun hf => by rcases h.2 b hf with h1 | h1; exact hn h1; omega, Nat.lt_of_lt_of_le hb h.1.size⟩
theorem Disk.later {w w' : World} {D : Nat} {s : St} {F : Nat → Prop} (h : Disk w D s F) (hb : Below w.heap.size w w') : Disk w' D s F := h.keeps (G := fun _ => False) (Keeps.of_below hb _) (fun _ _ h => h)
theorem Disk.alloc {w : World} {D : Nat} {s : St} {F : Nat → Prop} (h : Disk w D s F) (o : Obj) : Disk (w.alloc o) D s F := h.later ((Below.refl _ _).alloc (Nat.le_refl _) o)
theorem Disk.own {w : World} {D : Nat} {s : St} {F : Nat → Prop} (h : Disk w D s F) {B : Nat} (hB : B ≤ w.heap.size) (hF : ∀ b, F b → B ≤ b) : Own B w D s := by
  obtain ⟨N, L, v, h, rfl⟩ := h
  exact ⟨hB, N, L, v, h, hF⟩
theorem Disk.D {w : World} {D : Nat} {s : St} {F : Nat → Prop} (h : Disk w D s F) : F D ∧ D < w.heap.size := by
  obtain ⟨N, L, v, h, rfl⟩ := h
  exact ⟨.inl rfl, h.lt⟩
theorem disk_of {w w' : World} {D N L : Nat} {v v' : Value} {s' : St} {G : Nat → Prop} (h' : DiskIn w' D N L v' s') (hk : Keeps G w w') (hG : ∀ b, G b → foot D N L v b)
    (hv : ∀ b, v'.ownBlock = some b → v.ownBlock = some b ∨ w.heap.size ≤ b) : ∃ F', Disk w' D s' F' ∧ Step (foot D N L v) F' w w' := by
  refine ⟨foot D N L v', ⟨N, L, v', h', rfl⟩, hk.mono (fun b _ hb => hG b hb), fun b hb => ?_⟩
  rcases hb with e | e | e | e
  · exact .inl (.inl e)
  · exact .inl (.inr (.inl e))
  · exact .inl (.inr (.inr (.inl e)))
  · rcases hv b e with h1 | h1
    · exact .inl (.inr (.inr (.inr h1)))
    · exact .inr h1
section
variable {w : World} {D : Nat} {s : St} {F : Nat → Prop}
theorem disk_write (h : Disk w D s F) (i : Int) (hi0 : 0 ≤ i) (hi : i < s.n) (a : Option Addr) (len cap : Nat) (f : Nat → Nat) (hl : len ≤ 64) (hp : s.power = true)
    (hm : s.lo.length < 1000000) (hr : Rw w a len f) (ha : ∀ x, a = some x → 0 < len → x.block ≠ D) :
    Calls Try.prog 28 #[.pointer (some ⟨D, 0, none⟩), .int .i64 i, .slice a len cap] w fun e w' =>
      e = .returned (.int .i64 0) ∧ ∃ F', Disk w' D (s.spent.write i.toNat (fill f len)) F' ∧ Step F F' w w' := by
  obtain ⟨i, rfl⟩ := Int.eq_ofNat_of_zero_le hi0
  obtain ⟨N, L, v, h, rfl⟩ := h
  refine (write_in h i (by omega) a len cap f hl hp hm hr ha).mono ?_
  rintro e w' ⟨rfl, v', h', hk, hv⟩
  exact ⟨rfl, disk_of h' hk (fun b hb => hb) hv⟩
theorem disk_write_down (h : Disk w D s F) (i : Int) (hi0 : 0 ≤ i) (hi : i < s.n) (a : Option Addr) (len cap : Nat) (hl : len ≤ 64) (hp : s.power = false) :
    Calls Try.prog 28 #[.pointer (some ⟨D, 0, none⟩), .int .i64 i, .slice a len cap] w fun e w' =>
      e = .returned (.int .i64 4) ∧ ∃ F', Disk w' D s.spent F' ∧ Step F F' w w' := by
  obtain ⟨i, rfl⟩ := Int.eq_ofNat_of_zero_le hi0
  obtain ⟨N, L, v, h, rfl⟩ := h
  refine (write_down h i (by omega) a len cap hl hp).mono ?_
  rintro e w' ⟨rfl, h', hk⟩
  exact ⟨rfl, disk_of h' hk (fun b hb => .inl hb) (fun b hb => .inl hb)⟩
theorem disk_write_bad (h : Disk w D s F) (i : Int) (a : Option Addr) (len cap : Nat) (hb : ¬ (0 ≤ i ∧ i < s.n) ∨ 64 < len) :
    Calls Try.prog 28 #[.pointer (some ⟨D, 0, none⟩), .int .i64 i, .slice a len cap] w fun e w' => e = .returned (.int .i64 1) ∧ w' = w := by
  obtain ⟨N, L, v, h, rfl⟩ := h
  exact write_bad h i a len cap hb
theorem disk_flush (h : Disk w D s F) (hp : s.power = true) :
    Calls Try.prog 29 #[.pointer (some ⟨D, 0, none⟩)] w fun e w' => e = .returned (.int .i64 0) ∧ ∃ F', Disk w' D s.spent.flush F' ∧ Step F F' w w' := by
  obtain ⟨N, L, v, h, rfl⟩ := h
  refine (flush_in h hp).mono ?_
  rintro e w' ⟨rfl, h', hk⟩
  exact ⟨rfl, disk_of h' hk (fun b hb => by rcases hb with e | e; exact .inl e; exact .inr (.inr (.inl e))) (fun b hb => by simp [Value.ownBlock] at hb)⟩
theorem disk_flush_down (h : Disk w D s F) (hp : s.power = false) :
    Calls Try.prog 29 #[.pointer (some ⟨D, 0, none⟩)] w fun e w' => e = .returned (.int .i64 4) ∧ ∃ F', Disk w' D s.spent F' ∧ Step F F' w w' := by
  obtain ⟨N, L, v, h, rfl⟩ := h
  refine (flush_down h hp).mono ?_
  rintro e w' ⟨rfl, h', hk⟩
  exact ⟨rfl, disk_of h' hk (fun b hb => .inl hb) (fun b hb => .inl hb)⟩
theorem disk_crash (h : Disk w D s F) (keep torn at_ : Int) (hk0 : 0 ≤ keep) (hkeep : keep < 18446744073709551616) (hat : -9223372036854775808 ≤ at_ ∧ at_ ≤ 9223372036854775807) :
    Calls Try.prog 20 #[.pointer (some ⟨D, 0, none⟩), .int .u64 keep, .int .i64 torn, .int .i64 at_] w fun e w' =>
      e = .returned (.tuple #[]) ∧ ∃ F', Disk w' D (s.crash keep.toNat torn at_) F' ∧ Step F F' w w' := by
  obtain ⟨keep, rfl⟩ := Int.eq_ofNat_of_zero_le hk0
  obtain ⟨N, L, v, h, rfl⟩ := h
  refine (crash_in h keep torn at_ (by omega) hat).mono ?_
  rintro e w' ⟨rfl, h', hk⟩
  exact ⟨rfl, disk_of h' hk (fun b hb => by rcases hb with e | e | e; exact .inl e; exact .inr (.inl e); exact .inr (.inr (.inl e))) (fun b hb => by simp [Value.ownBlock] at hb)⟩
theorem disk_fuse (h : Disk w D s F) (n : Int) (hn : n ≤ 9223372036854775807) :
    Calls Try.prog 19 #[.pointer (some ⟨D, 0, none⟩), .int .i64 n] w fun e w' => e = .returned (.tuple #[]) ∧ ∃ F', Disk w' D (s.fuse n) F' ∧ Step F F' w w' := by
  obtain ⟨N, L, v, h, rfl⟩ := h
  refine (fuse_in h n hn).mono ?_
  rintro e w' ⟨rfl, h', hk⟩
  exact ⟨rfl, disk_of h' hk (fun b hb => .inl hb) (fun b hb => .inl hb)⟩
theorem disk_read (h : Disk w D s F) (i : Int) (hi0 : 0 ≤ i) (hi : i < s.n) :
    Calls Try.prog 27 #[.pointer (some ⟨D, 0, none⟩), .int .i64 i] w fun e w' => ∃ b, e = .returned (.tuple #[.slice (some ⟨b, 0, none⟩) 64 64, .int .i64 0]) ∧ Rw w' (some ⟨b, 0, none⟩) 64 (s.now i.toNat) ∧ w.heap.size ≤ b ∧ Below w.heap.size w w' := by
  obtain ⟨i, rfl⟩ := Int.eq_ofNat_of_zero_le hi0
  obtain ⟨N, L, v, h, rfl⟩ := h
  refine (read_in h i (by omega)).mono ?_
  rintro e w' ⟨rfl, rfl⟩
  exact ⟨_, rfl, rw_page w _ _, Nat.le_refl _, (Below.refl _ _).alloc (Nat.le_refl _) _⟩
theorem disk_lasts (h : Disk w D s F) (i : Int) (hi0 : 0 ≤ i) (hi : i < s.n) :
    Calls Try.prog 54 #[.pointer (some ⟨D, 0, none⟩), .int .i64 i] w fun e w' => ∃ b, e = .returned (.tuple #[.slice (some ⟨b, 0, none⟩) 64 64, .int .i64 0]) ∧ Rw w' (some ⟨b, 0, none⟩) 64 (s.lasts i.toNat) ∧ w.heap.size ≤ b ∧ Below w.heap.size w w' := by
  obtain ⟨i, rfl⟩ := Int.eq_ofNat_of_zero_le hi0
  obtain ⟨N, L, v, h, rfl⟩ := h
  refine (lasts_in h i (by omega)).mono ?_
  rintro e w' ⟨rfl, rfl⟩
  exact ⟨_, rfl, rw_page w _ _, Nat.le_refl _, (Below.refl _ _).alloc (Nat.le_refl _) _⟩
theorem disk_len (h : Disk w D s F) : Calls Try.prog 31 #[.pointer (some ⟨D, 0, none⟩)] w fun e w' => e = .returned (.int .i64 (s.n : Int)) ∧ w' = w := by
  obtain ⟨N, L, v, h, rfl⟩ := h
  exact len_in h
theorem disk_loose (h : Disk w D s F) : Calls Try.prog 55 #[.pointer (some ⟨D, 0, none⟩)] w fun e w' => e = .returned (.int .i64 (s.lo.length : Int)) ∧ w' = w := by
  obtain ⟨N, L, v, h, rfl⟩ := h
  exact loose_in h
end
end Go.Proofs.Ytbecchoidglaeaa
