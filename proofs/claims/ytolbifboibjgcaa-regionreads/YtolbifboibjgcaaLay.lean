/- The document's Lay. -/
import Derived.Test.YtolbifboibjgcaaSectors
import Derived.Test.YtolbifboibjgcaaLayP
namespace Go.Proofs.Ytolbifboibjgcaa
open Go.RowKit

theorem RStep.trans {W P W1 P1 W2 P2 : Nat → Prop} {w w1 w2 : World} (h : RStep W P W1 P1 w w1) (k : RStep W1 P1 W2 P2 w1 w2) : RStep W P W2 P2 w w2 := by
  have hs := h.1.size
  refine ⟨h.1.trans k.1 (fun b hb hw => by rcases h.2.1 b hw with h1 | h1; exact h1; omega), fun b hb => ?_, fun b hb => ?_⟩
  · rcases k.2.1 b hb with h1 | h1
    · exact h.2.1 b h1
    · exact .inr (by omega)
  · rcases k.2.2 b hb with h1 | h1
    · exact h.2.2 b h1
    · exact .inr (by omega)
theorem RStep.of_below {W P : Nat → Prop} {w w' : World} (h : Below w.heap.size w w') : RStep W P W P w w' := ⟨Keeps.of_below h _, fun _ hb => .inl hb, fun _ hb => .inl hb⟩
theorem RDisk.later {w w' : World} {V : Nat} {s : St} {W P : Nat → Prop} (h : RDisk w V s W P) (hb : Below w.heap.size w w') : RDisk w' V s W P := h.keeps (G := fun _ => False) (Keeps.of_below hb _) (fun _ _ h => h) (fun _ _ h => h)

section
variable {w : World} {V : Nat} {s : St} {W P : Nat → Prop}
set_option maxHeartbeats 400000 in
theorem rend_any (h : RDisk w V s W P) (e : Int) : Calls Try.prog 33 #[.pointer (some ⟨V, 0, none⟩), .int .i64 e] w fun r w' => r = .returned (.int .i64 (min e (s.n : Int))) ∧ w' = w := by
  obtain ⟨a, cap, c0, _⟩ := h.sectors
  clear h
  by_cases he : (s.n : Int) < e
  · go_enter Try.func33, Try.ntmps33
    go_wp2
    go_ret
    exact ⟨ret_int (by omega), rfl⟩
  · go_enter Try.func33, Try.ntmps33
    go_wp2
    go_ret
    exact ⟨ret_int (by omega), rfl⟩
/-- Write, of either kind. -/
theorem rdisk_wr (h : RDisk w V s W P) (i : Int) (hi0 : 0 ≤ i) (hi : i < s.n) (a : Option Addr) (len cap : Nat) (f : Nat → Nat) (hl : len ≤ 64) (hm : s.lo.length < 1000000) (hr : Rw w a len f) (ha : ∀ x, a = some x → 0 < len → x.block ≠ V) :
    Calls Try.prog 28 #[.pointer (some ⟨V, 0, none⟩), .int .i64 i, .slice a len cap] w fun e w' =>
      e = .returned (.int .i64 ((s.wr i.toNat (fill f len)).2 : Int)) ∧ ∃ W' P', RDisk w' V (s.wr i.toNat (fill f len)).1 W' P' ∧ RStep W P W' P' w w' := by
  unfold St.wr
  cases hp : s.power with
  | true => simpa using rdisk_write h i hi0 hi a len cap f hl hp hm hr ha
  | false => simpa using rdisk_write_down h i hi0 hi a len cap hl hp
/-- Flush, of either kind. -/
theorem rdisk_fl (h : RDisk w V s W P) : Calls Try.prog 29 #[.pointer (some ⟨V, 0, none⟩)] w fun e w' =>
      e = .returned (.int .i64 (s.fl.2 : Int)) ∧ ∃ W' P', RDisk w' V s.fl.1 W' P' ∧ RStep W P W' P' w w' := by
  unfold St.fl
  cases hp : s.power with
  | true => simpa using rdisk_flush h hp
  | false => simpa using rdisk_flush_down h hp
end
/-- A row of n pages F between the blocks B and B1. -/
def Sheets (w : World) (B B1 : Nat) (v : Value) (n : Nat) (F : Nat → Nat → Nat) : Prop :=
  ∃ g c pgs, v = .slice (some ⟨g, 0, none⟩) n c ∧ B ≤ g ∧ g < B1 ∧ w.ownsRow 0 39 1 v n pgs ∧ ∀ i, i < n → ∃ u, pgs[i]? = some u ∧ PageAt w (fun b => B ≤ b ∧ b < B1) u (F i)
theorem PagesIn.sheets {w : World} {B n : Nat} {v : Value} {F : Nat → Nat → Nat} (h : PagesIn w B v n F) (hn : 0 < n) : Sheets w B w.heap.size v n F := by
  obtain ⟨pgs, ho, hp⟩ := h
  obtain ⟨g, c, rfl, hg, hlt⟩ := ho.form hn
  refine ⟨g, c, pgs, rfl, hg, hlt, ⟨ho.1, ?_⟩, fun i hi => ?_⟩
  · rcases ho.2 with h1 | ⟨g', c', cur, e, _, rest⟩
    · exact .inl h1
    · exact .inr ⟨g', c', cur, e, Nat.zero_le _, rest⟩
  · obtain ⟨u, hu, b, off, cap, e, hc, hb, hf⟩ := hp i hi
    exact ⟨u, hu, b, off, cap, e, hc, ⟨hb.1, World.block_lt_of_cell? w _ (hf 0 (by omega))⟩, hf⟩
theorem Sheets.keeps {w w' : World} {B B1 n : Nat} {v : Value} {F : Nat → Nat → Nat} (h : Sheets w B B1 v n F) {G : Nat → Prop} (hk : Keeps G w w') (hG : ∀ b, B ≤ b → b < B1 → ¬ G b) : Sheets w' B B1 v n F := by
  obtain ⟨g, c, pgs, rfl, hg, hlt, ho, hp⟩ := h
  refine ⟨g, c, pgs, rfl, hg, hlt, own_keeps ho hk (fun b e => by simp [Value.ownBlock] at e; subst e; exact hG _ hg hlt), fun i hi => ?_⟩
  obtain ⟨u, hu, hpu⟩ := hp i hi
  exact ⟨u, hu, hpu.keeps hk (fun b hb => hG b hb.1 hb.2)⟩
theorem Sheets.at {w : World} {B B1 n : Nat} {v : Value} {F : Nat → Nat → Nat} (h : Sheets w B B1 v n F) : ∃ g c, v = .slice (some ⟨g, 0, none⟩) n c ∧ ∀ i, i < n → ∃ b off cap, w.cell? ⟨g, i, none⟩ = some (.slice (some ⟨b, off, none⟩) 64 cap) ∧ Rw w (some ⟨b, off, none⟩) 64 (F i) ∧ B ≤ b ∧ b < B1 := by
  obtain ⟨g, c, pgs, rfl, hg, hlt, ho, hp⟩ := h
  refine ⟨g, c, rfl, fun i hi => ?_⟩
  obtain ⟨u, hu, b, off, cap, rfl, _, hb, hf⟩ := hp i hi
  exact ⟨b, off, cap, by rw [ho.cellAt i (by omega)]; exact hu, ⟨by unfold maxLen; omega, fun _ => ⟨b, off, rfl, hf⟩⟩, hb.1, hb.2⟩
end Go.Proofs.Ytolbifboibjgcaa
