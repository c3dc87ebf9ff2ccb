/- The document's disk beside other memory of the call: its functions, with the blocks that they turn. -/
import Derived.Test.YtbecchoidglaeaaRRead
namespace Go.Proofs.Ytbecchoidglaeaa
open Go.RowKit
set_option maxRecDepth 100000

section
variable {w : World} {V : Nat} {s : St} {W P : Nat → Prop}
theorem rdisk_write (h : RDisk w V s W P) (i : Int) (hi0 : 0 ≤ i) (hi : i < s.n) (a : Option Addr) (len cap : Nat) (f : Nat → Nat) (hl : len ≤ 64) (hp : s.power = true)
    (hm : s.lo.length < 1000000) (hr : Rw w a len f) (ha : ∀ x, a = some x → 0 < len → x.block ≠ V) :
    Calls Try.prog 43 #[.pointer (some ⟨V, 0, none⟩), .int .i64 i, .slice a len cap] w fun e w' =>
      e = .returned (.int .i64 0) ∧ ∃ W' P', RDisk w' V (s.spent.write i.toNat (fill f len)) W' P' ∧ RStep W P W' P' w w' := by
  obtain ⟨i, rfl⟩ := Int.eq_ofNat_of_zero_le hi0
  obtain ⟨sv, lv, pgs, lps, h, rfl⟩ := h
  exact rwrite_in h i (by omega) a len cap f hl hp hm hr ha
theorem rstep_V {w w' : World} {V : Nat} {sv lv : Value} {pgs : List Value} {lps : List (Nat × Value)} {P : Nat → Prop} {s : St} (h : RefIn w' V sv lv pgs lps P s) (hk : Keeps (fun b => b = V) w w') :
    ∃ W' P', RDisk w' V s W' P' ∧ RStep (rfoot V sv lv) P W' P' w w' :=
  ⟨_, _, ⟨sv, lv, pgs, lps, h, rfl⟩, hk.mono (fun _ _ e => .inl e), fun _ hb => .inl hb, fun _ hb => .inl hb⟩
theorem rdisk_write_down (h : RDisk w V s W P) (i : Int) (hi0 : 0 ≤ i) (hi : i < s.n) (a : Option Addr) (len cap : Nat) (hl : len ≤ 64) (hp : s.power = false) :
    Calls Try.prog 43 #[.pointer (some ⟨V, 0, none⟩), .int .i64 i, .slice a len cap] w fun e w' =>
      e = .returned (.int .i64 4) ∧ ∃ W' P', RDisk w' V s.spent W' P' ∧ RStep W P W' P' w w' := by
  obtain ⟨i, rfl⟩ := Int.eq_ofNat_of_zero_le hi0
  obtain ⟨sv, lv, pgs, lps, h, rfl⟩ := h
  refine (rwrite_down h i (by omega) a len cap hl hp).mono ?_
  rintro e w' ⟨rfl, h', hk⟩
  exact ⟨rfl, rstep_V h' hk⟩
theorem rdisk_write_bad (h : RDisk w V s W P) (i : Int) (a : Option Addr) (len cap : Nat) (hb : ¬ (0 ≤ i ∧ i < s.n) ∨ 64 < len) :
    Calls Try.prog 43 #[.pointer (some ⟨V, 0, none⟩), .int .i64 i, .slice a len cap] w fun e w' => e = .returned (.int .i64 1) ∧ w' = w := by
  obtain ⟨sv, lv, pgs, lps, h, rfl⟩ := h
  exact rwrite_bad h i a len cap hb
theorem rdisk_flush (h : RDisk w V s W P) (hp : s.power = true) :
    Calls Try.prog 44 #[.pointer (some ⟨V, 0, none⟩)] w fun e w' => e = .returned (.int .i64 0) ∧ ∃ W' P', RDisk w' V s.spent.flush W' P' ∧ RStep W P W' P' w w' := by
  obtain ⟨sv, lv, pgs, lps, h, rfl⟩ := h
  exact rflush_in h hp
theorem rdisk_flush_down (h : RDisk w V s W P) (hp : s.power = false) :
    Calls Try.prog 44 #[.pointer (some ⟨V, 0, none⟩)] w fun e w' => e = .returned (.int .i64 4) ∧ ∃ W' P', RDisk w' V s.spent W' P' ∧ RStep W P W' P' w w' := by
  obtain ⟨sv, lv, pgs, lps, h, rfl⟩ := h
  refine (rflush_down h hp).mono ?_
  rintro e w' ⟨rfl, h', hk⟩
  exact ⟨rfl, rstep_V h' hk⟩
theorem rdisk_read (h : RDisk w V s W P) (i : Int) (hi0 : 0 ≤ i) (hi : i < s.n) :
    Calls Try.prog 38 #[.pointer (some ⟨V, 0, none⟩), .int .i64 i] w fun e w' => ∃ a cap, e = .returned (.slice a 64 cap) ∧ Rw w a 64 (lay (fun _ => 64) s.lo s.lasts s.lo.length i.toNat) ∧ w' = w := by
  obtain ⟨i, rfl⟩ := Int.eq_ofNat_of_zero_le hi0
  obtain ⟨sv, lv, pgs, lps, h, rfl⟩ := h
  refine (rread_in h i (by omega)).mono ?_
  rintro e w' ⟨v, rfl, hp, rfl⟩
  obtain ⟨a, cap, rfl, hr, _⟩ := hp.rw
  exact ⟨a, cap, rfl, hr, rfl⟩
/-- Fuse, set by hand: a number n, or 0. -/
theorem rdisk_fuse (h : RDisk w V s W P) (n : Int) (hn : n ≤ 9223372036854775807) (m : Int) (hm : m = (n.toNat : Int)) : RDisk (w.setCell ⟨V, 2, none⟩ (.int .i64 m)) V (s.fuse n) W P := by
  obtain ⟨sv, lv, pgs, lps, h, rfl⟩ := h
  subst hm
  have hb := heap_set_at w V 2 _ _ _ (.int .i64 (n.toNat : Int)) h.block
  exact ⟨sv, lv, pgs, lps, h.fuseSet (s.fuse n) rfl rfl rfl (by show n.toNat < _; omega) _ ((Keeps.refl _ _).setCell V 2 _ (.inl rfl)) hb, rfl⟩
theorem rdisk_fuse2 (h : RDisk w V s W P) (n : Int) (hn : n ≤ 9223372036854775807) (u : Value) (m : Int) (hm : m = (n.toNat : Int)) : RDisk ((w.setCell ⟨V, 2, none⟩ u).setCell ⟨V, 2, none⟩ (.int .i64 m)) V (s.fuse n) W P := by
  obtain ⟨sv, lv, pgs, lps, h, rfl⟩ := h
  subst hm
  have hb := heap_set_at w V 2 _ _ _ u h.block
  have hb2 := heap_set_at _ V 2 _ _ _ (.int .i64 (n.toNat : Int)) hb
  exact ⟨sv, lv, pgs, lps, h.fuseSet (s.fuse n) rfl rfl rfl (by show n.toNat < _; omega) _ (((Keeps.refl (fun b => b = V) _).setCell V 2 _ (.inl rfl)).setCell V 2 _ (.inl rfl)) hb2, rfl⟩
theorem rstep_set (h : RDisk w V s W P) {w' : World} (hk : Keeps (fun b => b = V) w w') : RStep W P W P w w' := by
  obtain ⟨sv, lv, pgs, lps, _, rfl⟩ := h
  exact ⟨hk.mono (fun _ _ e => .inl e), fun _ hb => .inl hb, fun _ hb => .inl hb⟩
theorem RDisk.looseLen (h : RDisk w V s W P) : ∃ a cap, w.cell? ⟨V, 1, none⟩ = some (.slice a s.lo.length cap) := by
  obtain ⟨sv, lv, pgs, lps, h, rfl⟩ := h
  obtain ⟨a, cap, rfl, _⟩ := h.lform
  exact ⟨a, cap, h.c1⟩
theorem RDisk.fuseCell (h : RDisk w V s W P) : (∃ u, w.cell? ⟨V, 2, none⟩ = some u) ∧ w.frozen? ⟨V, 2, none⟩ = false := by
  obtain ⟨sv, lv, pgs, lps, h, rfl⟩ := h
  exact ⟨⟨_, h.c2⟩, h.fz 2⟩
/-- The sectors' slice, and a sector. -/
theorem RDisk.sectors (h : RDisk w V s W P) : ∃ a cap, w.cell? ⟨V, 0, none⟩ = some (.slice a s.n cap) ∧ ∀ i, i < s.n → ∃ g b off c, a = some ⟨g, 0, none⟩ ∧ w.cell? ⟨g, i, none⟩ = some (.slice (some ⟨b, off, none⟩) 64 c) ∧ Rw w (some ⟨b, off, none⟩) 64 (s.lasts i) := by
  obtain ⟨sv, lv, pgs, lps, h, rfl⟩ := h
  obtain ⟨a, cap, rfl, hg⟩ := h.sform
  refine ⟨a, cap, h.c0, fun i hi => ?_⟩
  obtain ⟨g, rfl⟩ := hg (by omega)
  obtain ⟨v, hv, hp⟩ := h.page i hi
  obtain ⟨b, off, c, rfl, _, _, hf⟩ := hp
  exact ⟨g, b, off, c, rfl, hv, ⟨by unfold maxLen; omega, fun _ => ⟨b, off, rfl, hf⟩⟩⟩
end
end Go.Proofs.Ytbecchoidglaeaa
