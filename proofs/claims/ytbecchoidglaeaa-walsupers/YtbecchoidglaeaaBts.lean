/- All bytes of a disk are bytes, whatever is done with it: the basics. -/
import Derived.Test.YtbecchoidglaeaaCrash
namespace Go.Proofs.Ytbecchoidglaeaa
open Go.RowKit
set_option maxRecDepth 100000

/-- All numbers on a disk, and of what is loose, are bytes. -/
structure Bts (s : St) : Prop where
  now : ∀ i j, s.now i j < 256
  lasts : ∀ i j, s.lasts i j < 256
  lo : ∀ x ∈ s.lo, ∀ j, x.2 j < 256
theorem bts_put {g : Nat → Nat → Nat} (h : ∀ i j, g i j < 256) {p : Nat → Nat} (hp : ∀ j, p j < 256) (k m : Nat) : ∀ i j, putPage g k m p i j < 256 := fun i j => by
  unfold putPage
  split
  · exact hp j
  · exact h i j
theorem bts_lay (m : Nat → Nat) {lo : List (Nat × (Nat → Nat))} (hl : ∀ x ∈ lo, ∀ j, x.2 j < 256) {g : Nat → Nat → Nat} (h : ∀ i j, g i j < 256) : ∀ k, k ≤ lo.length → ∀ i j, lay m lo g k i j < 256
  | 0, _ => h
  | k + 1, hk => by
    obtain ⟨x, hx⟩ : ∃ x, lo[k]? = some x := ⟨_, List.getElem?_eq_getElem (by omega)⟩
    rw [lay_succ m lo g k x hx]
    exact bts_put (bts_lay m hl h k (by omega)) (hl x (List.mem_of_getElem? hx)) _ _
theorem bts_made (n : Nat) : Bts (St.made n) := ⟨fun _ _ => by show 0 < 256; omega, fun _ _ => by show 0 < 256; omega, fun x hx => by cases hx⟩
theorem Bts.spent {s : St} (h : Bts s) : Bts s.spent := ⟨h.now, h.lasts, h.lo⟩
theorem Bts.fuse {s : St} (h : Bts s) (n : Int) : Bts (s.fuse n) := ⟨h.now, h.lasts, h.lo⟩
theorem Bts.write {s : St} (h : Bts s) (i : Nat) {p : Nat → Nat} (hp : ∀ j, p j < 256) : Bts (s.write i p) := ⟨bts_put h.now hp _ _, h.lasts, fun x hx => by
  rcases List.mem_append.1 hx with hx | hx
  · exact h.lo x hx
  · simp at hx; subst hx; exact hp⟩
theorem Bts.flush {s : St} (h : Bts s) : Bts s.flush := ⟨h.now, bts_lay _ h.lo h.lasts _ (Nat.le_refl _), fun x hx => by cases hx⟩
theorem Bts.crash {s : St} (h : Bts s) (keep : Nat) (torn k : Int) : Bts (s.crash keep torn k) := ⟨bts_lay _ h.lo h.lasts _ (Nat.le_refl _), bts_lay _ h.lo h.lasts _ (Nat.le_refl _), fun x hx => by cases hx⟩
theorem bts_fill {f : Nat → Nat} {len : Nat} (hf : ∀ i, i < len → f i < 256) : ∀ j, fill f len j < 256 := fun j => by
  unfold fill
  split
  · rename_i h; exact hf j h
  · omega
end Go.Proofs.Ytbecchoidglaeaa
