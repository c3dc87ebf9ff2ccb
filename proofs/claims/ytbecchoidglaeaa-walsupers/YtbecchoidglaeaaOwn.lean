/- A disk that the call itself has made ('Own'), its functions in that form. -/
import Derived.Test.YtbecchoidglaeaaCrash
namespace Go.Proofs.Ytbecchoidglaeaa
open Go.RowKit
set_option maxRecDepth 100000

/-- The disk at block D is s; all its blocks are new since block B. -/
def Own (B : Nat) (w : World) (D : Nat) (s : St) : Prop := B ≤ w.heap.size ∧ ∃ N L v, DiskIn w D N L v s ∧ ∀ b, foot D N L v b → B ≤ b
theorem Own.D {B : Nat} {w : World} {D : Nat} {s : St} (h : Own B w D s) : B ≤ D ∧ D < w.heap.size := by
  obtain ⟨hb, N, L, v, h, hf⟩ := h
  exact ⟨hf D (.inl rfl), h.lt⟩
theorem Own.later {B : Nat} {w w' : World} {D : Nat} {s : St} (h : Own B w D s) (hb : Below w.heap.size w w') : Own B w' D s := by
  obtain ⟨hB, N, L, v, h, hf⟩ := h
  exact ⟨Nat.le_trans hB hb.size, N, L, v, h.keeps (F := fun _ => False) (Keeps.of_below hb _) (fun _ _ h => h), hf⟩
theorem Own.alloc {B : Nat} {w : World} {D : Nat} {s : St} (h : Own B w D s) (o : Obj) : Own B (w.alloc o) D s := h.later ((Below.refl _ _).alloc (Nat.le_refl _) o)
theorem Own.drew {B : Nat} {w : World} {D : Nat} {s : St} (h : Own B w D s) : Own B w.drew D s := h.later ⟨rfl, rfl, rfl, Nat.le_refl _, fun _ _ => rfl⟩
theorem below_le {B C : Nat} {w w' : World} (h : Below C w w') (hB : B ≤ C) : Below B w w' := ⟨h.os, h.tape, h.output, h.size, fun k hk => h.block k (by omega)⟩
theorem own_of {B : Nat} {w w' : World} {D N L : Nat} {v v' : Value} {s' : St} {F : Nat → Prop} (hB : B ≤ w.heap.size) (hf : ∀ b, foot D N L v b → B ≤ b) (h' : DiskIn w' D N L v' s') (hk : Keeps F w w') (hF : ∀ b, F b → foot D N L v b)
    (hv : ∀ b, v'.ownBlock = some b → v.ownBlock = some b ∨ w.heap.size ≤ b) : Own B w' D s' ∧ Below B w w' := by
  refine ⟨⟨Nat.le_trans hB hk.size, N, L, v', h', fun b hb => ?_⟩, hk.below B hB (fun b hb => hf b (hF b hb))⟩
  rcases hb with e | e | e | e
  · exact hf b (.inl e)
  · exact hf b (.inr (.inl e))
  · exact hf b (.inr (.inr (.inl e)))
  · rcases hv b e with h1 | h1
    · exact hf b (.inr (.inr (.inr h1)))
    · omega
section
variable {B : Nat} {w : World} {D : Nat} {s : St}
theorem own_new (n : Int) (w : World) (hn : -9223372036854775808 ≤ n ∧ n ≤ 9223372036854775807) : Calls Try.prog 10 #[.int .i64 n] w fun e w' =>
    ∃ D, e = .returned (.pointer (some ⟨D, 0, none⟩)) ∧ Own w.heap.size w' D (St.made (clamp n 1024).toNat) ∧ Below w.heap.size w w' := by
  refine (new_any n w hn).mono ?_
  rintro e w' ⟨D, F, rfl, ⟨N, L, v, h, rfl⟩, hf, hb⟩
  exact ⟨D, rfl, ⟨hb.size, N, L, v, h, hf⟩, hb⟩
theorem own_write (h : Own B w D s) (i : Int) (hi0 : 0 ≤ i) (hi : i < s.n) (a : Option Addr) (len cap : Nat) (f : Nat → Nat) (hl : len ≤ 64) (hp : s.power = true)
    (hm : s.lo.length < 1000000) (hr : Rw w a len f) (ha : ∀ x, a = some x → 0 < len → x.block ≠ D) :
    Calls Try.prog 28 #[.pointer (some ⟨D, 0, none⟩), .int .i64 i, .slice a len cap] w fun e w' =>
      e = .returned (.int .i64 0) ∧ Own B w' D (s.spent.write i.toNat (fill f len)) ∧ Below B w w' := by
  obtain ⟨i, rfl⟩ := Int.eq_ofNat_of_zero_le hi0
  obtain ⟨hB, N, L, v, h, hf⟩ := h
  refine (write_in h i (by omega) a len cap f hl hp hm hr ha).mono ?_
  rintro e w' ⟨rfl, v', h', hk, hv⟩
  exact ⟨rfl, own_of hB hf h' hk (fun b hb => hb) hv⟩
theorem own_write_down (h : Own B w D s) (i : Int) (hi0 : 0 ≤ i) (hi : i < s.n) (a : Option Addr) (len cap : Nat) (hl : len ≤ 64) (hp : s.power = false) :
    Calls Try.prog 28 #[.pointer (some ⟨D, 0, none⟩), .int .i64 i, .slice a len cap] w fun e w' =>
      e = .returned (.int .i64 4) ∧ Own B w' D s.spent ∧ Below B w w' := by
  obtain ⟨i, rfl⟩ := Int.eq_ofNat_of_zero_le hi0
  obtain ⟨hB, N, L, v, h, hf⟩ := h
  refine (write_down h i (by omega) a len cap hl hp).mono ?_
  rintro e w' ⟨rfl, h', hk⟩
  exact ⟨rfl, own_of hB hf h' hk (fun b hb => .inl hb) (fun b hb => .inl hb)⟩
theorem own_flush (h : Own B w D s) (hp : s.power = true) :
    Calls Try.prog 29 #[.pointer (some ⟨D, 0, none⟩)] w fun e w' => e = .returned (.int .i64 0) ∧ Own B w' D s.spent.flush ∧ Below B w w' := by
  obtain ⟨hB, N, L, v, h, hf⟩ := h
  refine (flush_in h hp).mono ?_
  rintro e w' ⟨rfl, h', hk⟩
  exact ⟨rfl, own_of hB hf h' hk (fun b hb => by rcases hb with e | e; exact .inl e; exact .inr (.inr (.inl e))) (fun b hb => by simp [Value.ownBlock] at hb)⟩
theorem own_flush_down (h : Own B w D s) (hp : s.power = false) :
    Calls Try.prog 29 #[.pointer (some ⟨D, 0, none⟩)] w fun e w' => e = .returned (.int .i64 4) ∧ Own B w' D s.spent ∧ Below B w w' := by
  obtain ⟨hB, N, L, v, h, hf⟩ := h
  refine (flush_down h hp).mono ?_
  rintro e w' ⟨rfl, h', hk⟩
  exact ⟨rfl, own_of hB hf h' hk (fun b hb => .inl hb) (fun b hb => .inl hb)⟩
theorem own_crash (h : Own B w D s) (keep torn at_ : Int) (hk0 : 0 ≤ keep) (hkeep : keep < 18446744073709551616) (hat : -9223372036854775808 ≤ at_ ∧ at_ ≤ 9223372036854775807) :
    Calls Try.prog 20 #[.pointer (some ⟨D, 0, none⟩), .int .u64 keep, .int .i64 torn, .int .i64 at_] w fun e w' =>
      e = .returned (.tuple #[]) ∧ Own B w' D (s.crash keep.toNat torn at_) ∧ Below B w w' := by
  obtain ⟨keep, rfl⟩ := Int.eq_ofNat_of_zero_le hk0
  obtain ⟨hB, N, L, v, h, hf⟩ := h
  refine (crash_in h keep torn at_ (by omega) hat).mono ?_
  rintro e w' ⟨rfl, h', hk⟩
  exact ⟨rfl, own_of hB hf h' hk (fun b hb => by rcases hb with e | e | e; exact .inl e; exact .inr (.inl e); exact .inr (.inr (.inl e))) (fun b hb => by simp [Value.ownBlock] at hb)⟩
theorem own_fuse (h : Own B w D s) (n : Int) (hn : n ≤ 9223372036854775807) :
    Calls Try.prog 19 #[.pointer (some ⟨D, 0, none⟩), .int .i64 n] w fun e w' => e = .returned (.tuple #[]) ∧ Own B w' D (s.fuse n) ∧ Below B w w' := by
  obtain ⟨hB, N, L, v, h, hf⟩ := h
  refine (fuse_in h n hn).mono ?_
  rintro e w' ⟨rfl, h', hk⟩
  exact ⟨rfl, own_of hB hf h' hk (fun b hb => .inl hb) (fun b hb => .inl hb)⟩
theorem own_read (h : Own B w D s) (i : Int) (hi0 : 0 ≤ i) (hi : i < s.n) :
    Calls Try.prog 27 #[.pointer (some ⟨D, 0, none⟩), .int .i64 i] w fun e w' => ∃ b, e = .returned (.tuple #[.slice (some ⟨b, 0, none⟩) 64 64, .int .i64 0]) ∧ Rw w' (some ⟨b, 0, none⟩) 64 (s.now i.toNat) ∧ w.heap.size ≤ b ∧ Own B w' D s ∧ Below w.heap.size w w' := by
  obtain ⟨i, rfl⟩ := Int.eq_ofNat_of_zero_le hi0
  have H := h
  obtain ⟨hB, N, L, v, h, hf⟩ := h
  refine (read_in h i (by omega)).mono ?_
  rintro e w' ⟨rfl, rfl⟩
  exact ⟨_, rfl, rw_page w _ _, Nat.le_refl _, H.alloc _, (Below.refl _ _).alloc (Nat.le_refl _) _⟩
theorem own_lasts (h : Own B w D s) (i : Int) (hi0 : 0 ≤ i) (hi : i < s.n) :
    Calls Try.prog 54 #[.pointer (some ⟨D, 0, none⟩), .int .i64 i] w fun e w' => ∃ b, e = .returned (.tuple #[.slice (some ⟨b, 0, none⟩) 64 64, .int .i64 0]) ∧ Rw w' (some ⟨b, 0, none⟩) 64 (s.lasts i.toNat) ∧ w.heap.size ≤ b ∧ Own B w' D s ∧ Below w.heap.size w w' := by
  obtain ⟨i, rfl⟩ := Int.eq_ofNat_of_zero_le hi0
  have H := h
  obtain ⟨hB, N, L, v, h, hf⟩ := h
  refine (lasts_in h i (by omega)).mono ?_
  rintro e w' ⟨rfl, rfl⟩
  exact ⟨_, rfl, rw_page w _ _, Nat.le_refl _, H.alloc _, (Below.refl _ _).alloc (Nat.le_refl _) _⟩
theorem own_len (h : Own B w D s) : Calls Try.prog 31 #[.pointer (some ⟨D, 0, none⟩)] w fun e w' => e = .returned (.int .i64 (s.n : Int)) ∧ w' = w := by
  obtain ⟨hB, N, L, v, h, hf⟩ := h
  exact len_in h
theorem own_loose (h : Own B w D s) : Calls Try.prog 55 #[.pointer (some ⟨D, 0, none⟩)] w fun e w' => e = .returned (.int .i64 (s.lo.length : Int)) ∧ w' = w := by
  obtain ⟨hB, N, L, v, h, hf⟩ := h
  exact loose_in h
end

end Go.Proofs.Ytbecchoidglaeaa
