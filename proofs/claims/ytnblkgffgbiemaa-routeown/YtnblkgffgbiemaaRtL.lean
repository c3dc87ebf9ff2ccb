/- Numbers that are changed: what stays. -/
import Derived.Test.YtnblkgffgbiemaaRtJ
namespace Go.Proofs.Ytnblkgffgbiemaa
open Go.RowKit
set_option maxRecDepth 100000

/-- What is no number is as it was; numbers are numbers of their kind. -/
structure Like (w w' : World) : Prop where
  cell : ∀ p v, w.cell? p = some v → (∃ k z y, v = .int k z ∧ w'.cell? p = some (.int k y)) ∨ ((∀ k z, v ≠ .int k z) ∧ w'.cell? p = some v)
  frozen : ∀ p, w'.frozen? p = w.frozen? p
theorem Like.refl (w : World) : Like w w := ⟨fun p v h => by
  cases v with
  | int k z => exact .inl ⟨k, z, z, rfl, h⟩
  | _ => exact .inr ⟨fun _ _ e => (by cases e), h⟩, fun _ => rfl⟩
theorem Like.slice {w w' : World} (h : Like w w') {p : Addr} {a : Option Addr} {n c : Nat} (hp : w.cell? p = some (.slice a n c)) : w'.cell? p = some (.slice a n c) := by
  rcases h.cell p _ hp with ⟨_, _, _, e, _⟩ | ⟨_, h1⟩
  · cases e
  · exact h1
theorem Like.int {w w' : World} (h : Like w w') {p : Addr} {k : IntKind} {z : Int} (hp : w.cell? p = some (.int k z)) : ∃ y, w'.cell? p = some (.int k y) := by
  rcases h.cell p _ hp with ⟨k', z', y, e, h1⟩ | ⟨h1, _⟩
  · cases e
    exact ⟨y, h1⟩
  · exact absurd rfl (h1 k z)
theorem Like.set {w w' : World} (h : Like w w') {p : Addr} {k : IntKind} {z : Int} (hp : w'.cell? p = some (.int k z)) (y : Int) : Like w (w'.setCell p (.int k y)) := by
  refine ⟨fun q v hq => ?_, fun q => by rw [World.frozen?_setCell]; exact h.frozen q⟩
  by_cases e : q = p
  · subst e
    rcases h.cell q v hq with ⟨k', z', y', e1, h1⟩ | ⟨h1, h2⟩
    · rw [hp] at h1
      cases h1
      exact .inl ⟨k, z', y, e1, World.cell?_setCell_same _ _ _ hp⟩
    · rw [hp] at h2
      cases h2
      exact absurd rfl (h1 k z)
  · rw [World.cell?_setCell_other _ _ _ _ (fun e9 => e e9.symm)]
    exact h.cell q v hq
/-- A row's cells where its world's rows stand. -/
theorem row_at {w1 W : World} {B e size n c : Nat} {a : Option Addr} {xs : List Value} (h : w1.ownsRow B e size (.slice a n c) n xs) (ht : TB w1 W) (hne : e ≠ 31) (j : Nat) (hj : j < n * size) :
    ∃ g, a = some ⟨g, 0, none⟩ ∧ B ≤ g ∧ g < w1.heap.size ∧ W.cell? ⟨g, j, none⟩ = xs[j]? ∧ W.frozen? ⟨g, j, none⟩ = false ∧ ∀ Y C, Bl W Y C → g ≠ Y := by
  have hn : 0 < n := by
    rcases Nat.eq_zero_or_pos n with rfl | h9
    · simp at hj
    · exact h9
  rcases h.2 with ⟨e1, h0⟩ | ⟨g, cap, cur, e1, hg, hcur, _⟩
  · omega
  · injection e1 with e1 _ e3
    subst e1 e3
    have hW := ht g cur e hcur hne
    refine ⟨g, rfl, hg, (Array.getElem?_eq_some_iff.1 hcur).1, ?_, ?_, fun Y C hY e9 => ?_⟩
    · rw [World.cell?_of_block (w := w1) (by exact hW)]; exact h.cellAt j hj
    · rw [World.frozen?_of_block (w := w1) (by exact hW)]; exact h.frozenAt j
    · subst e9
      unfold Bl at hY
      rw [hY, hcur] at hW
      injection hW with hW
      injection hW with _ h9 _
      exact hne h9.symm
/-- The numbers of a path of the call's own. -/
theorem path_at {w1 W : World} {B n c : Nat} {a : Option Addr} {ss : List (Bool × List Int)} (h : OwnPath w1 B (.slice a n c) ss) (hn : ss.length = n) (ht : TB w1 W) (i : Nat) (hi : i < ss.length) :
    ∃ G a' c', a = some ⟨G, 0, none⟩ ∧ W.cell? ⟨G, i * 2 + 1, none⟩ = some (.slice a' (ss[i]).2.length c') ∧
      ∀ k, k < (ss[i]).2.length → ∃ g z, a' = some ⟨g, 0, none⟩ ∧ B ≤ g ∧ g < w1.heap.size ∧ W.cell? ⟨g, k, none⟩ = some (.int .i64 z) ∧ W.frozen? ⟨g, k, none⟩ = false ∧ ∀ Y C, Bl W Y C → g ≠ Y := by
  obtain ⟨cs, ho, hc⟩ := h
  subst hn
  obtain ⟨_, u, h1, h2⟩ := hc i _ (List.getElem?_eq_getElem hi)
  obtain ⟨G, e, _, _, hG, _⟩ := row_at ho ht (by decide) (i * 2 + 1) (by omega)
  obtain ⟨a', c', rfl⟩ := own_shape h2
  refine ⟨G, a', c', e, by rw [hG]; exact h1, fun k hk => ?_⟩
  obtain ⟨g, e2, hB, hE, hg, hf, hY⟩ := row_at h2 ht (by decide) k (by omega)
  exact ⟨g, _, e2, hB, hE, by rw [hg]; exact icells_get _ k _ (List.getElem?_eq_getElem hk), hf, hY⟩
/-- The bytes of Raws of the call's own. -/
theorem raws_at {w1 W : World} {B n c : Nat} {a : Option Addr} {ss : List (Int × Int × List Nat)} (h : OwnRaws w1 B (.slice a n c) ss) (hn : ss.length = n) (ht : TB w1 W) (i : Nat) (hi : i < ss.length) :
    ∃ G a' c', a = some ⟨G, 0, none⟩ ∧ W.cell? ⟨G, i * 3 + 2, none⟩ = some (.slice a' (ss[i]).2.2.length c') ∧
      ∀ k, k < (ss[i]).2.2.length → ∃ g z, a' = some ⟨g, 0, none⟩ ∧ B ≤ g ∧ g < w1.heap.size ∧ W.cell? ⟨g, k, none⟩ = some (.int .u8 z) ∧ W.frozen? ⟨g, k, none⟩ = false ∧ ∀ Y C, Bl W Y C → g ≠ Y := by
  obtain ⟨cs, ho, hc⟩ := h
  subst hn
  obtain ⟨_, _, u, h1, h2⟩ := hc i _ (List.getElem?_eq_getElem hi)
  obtain ⟨G, e, _, _, hG, _⟩ := row_at ho ht (by decide) (i * 3 + 2) (by omega)
  obtain ⟨a', c', rfl⟩ := own_shape h2
  refine ⟨G, a', c', e, by rw [hG]; exact h1, fun k hk => ?_⟩
  obtain ⟨g, e2, hB, hE, hg, hf, hY⟩ := row_at h2 ht (by decide) k (by omega)
  exact ⟨g, (((ss[i]).2.2[k] : Nat) : Int), e2, hB, hE, by rw [hg]; simp [bcells, hk], hf, hY⟩
/-- Communities of the call's own. -/
theorem comms_at {w1 W : World} {B n c : Nat} {a : Option Addr} {cs : List Nat} (h : w1.ownsRow B 22 1 (.slice a n c) n (ucells cs)) (hn : cs.length = n) (ht : TB w1 W) (k : Nat) (hk : k < n) :
    ∃ g z, a = some ⟨g, 0, none⟩ ∧ B ≤ g ∧ g < w1.heap.size ∧ W.cell? ⟨g, k, none⟩ = some (.int .u32 z) ∧ W.frozen? ⟨g, k, none⟩ = false ∧ ∀ Y C, Bl W Y C → g ≠ Y := by
  obtain ⟨g, e2, hB, hE, hg, hf, hY⟩ := row_at h ht (by decide) k (by omega)
  have hk2 : k < cs.length := by omega
  exact ⟨g, ((cs[k] : Nat) : Int), e2, hB, hE, by rw [hg]; simp [ucells, hk2], hf, hY⟩
/-- What the loops turn. -/
def Turn (B E gA gN : Nat) (k : Nat) : Prop := B ≤ k ∧ k < E ∧ k ≠ gA ∧ k ≠ gN
structure LK (B E gA gN : Nat) (W Wq : World) : Prop where
  like : Like W Wq
  keeps : Keeps (Turn B E gA gN) W Wq
theorem LK.refl (B E gA gN : Nat) (W : World) : LK B E gA gN W W := ⟨Like.refl _, Keeps.refl _ _⟩
theorem LK.set {B E gA gN : Nat} {W Wq : World} (h : LK B E gA gN W Wq) {g j : Nat} {k : IntKind} {z : Int} (hg : Turn B E gA gN g) (hc : Wq.cell? ⟨g, j, none⟩ = some (.int k z)) (y : Int) : LK B E gA gN W (Wq.setCell ⟨g, j, none⟩ (.int k y)) :=
  ⟨h.like.set hc y, h.keeps.setCell g j _ (.inl hg)⟩
theorem LK.bl {B E gA gN : Nat} {W Wq : World} (h : LK B E gA gN W Wq) {Y : Nat} {C : Array Value} (hY : Bl W Y C) (hn : ¬ Turn B E gA gN Y) : Bl Wq Y C := by
  unfold Bl
  rw [h.keeps.block Y hY.lt hn]
  exact hY
end Go.Proofs.Ytnblkgffgbiemaa
