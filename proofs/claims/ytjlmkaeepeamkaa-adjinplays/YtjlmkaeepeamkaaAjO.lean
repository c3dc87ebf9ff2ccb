/- Communities of the call's own that are changed; a row of one route. -/
import Derived.Test.YtjlmkaeepeamkaaHAy
namespace Go.Proofs.Ytjlmkaeepeamkaa
open Go.RowKit
set_option maxRecDepth 100000

/-- Cells that are read, behind a row of the call's own. -/
theorem app_cells {t e size bytes : Nat} (he : Elem t e size bytes) {w : World} {B g m k n : Nat} {ys xs : List Value} (a : Option Addr) (c : Nat) (ho : w.ownsRow B e size (.slice (some ⟨g, 0, none⟩) m k) m ys) (hB : B ≤ w.heap.size) (hl : m + n ≤ 1000000) (h : Cells w a n size xs) :
    ∃ v' w', (Builtin.append_ #[t, t] t #[.slice (some ⟨g, 0, none⟩) m k, .slice a n c]).run Try.prog w = .ok v' w' ∧ w'.ownsRow B e size v' (m + n) (ys ++ xs) ∧ Below B w w' := by
  obtain ⟨h1, h2, h3, h4⟩ := h
  cases a with
  | none =>
    obtain rfl : n = 0 := h2 rfl
    have hx : xs = [] := List.length_eq_zero_iff.1 (by omega)
    subst hx
    have hk : m ≤ k := by
      rcases ho.2 with ⟨e9, _⟩ | ⟨g', cap, cur, e9, _, _, h9, _⟩
      · cases e9
      · simp only [Value.slice.injEq] at e9
        obtain ⟨_, _, rfl⟩ := e9
        exact h9
    exact ⟨_, w, append_nil he w _ m k c hk, by rw [List.append_nil]; exact ho, Below.refl _ _⟩
  | some ad => exact app_old he ho hB ad n c xs h1 (h3 ad rfl) h4 hl
theorem own_reads {w : World} {B c : Nat} {a : Option Addr} {cs : List Nat} (h : w.ownsRow B 27 1 (.slice a cs.length c) cs.length (ucells cs)) : CRd w a cs := by
  obtain ⟨a9, c9, e9, h9⟩ := own_crd h
  injection e9 with e9 _ _
  subst e9
  exact h9
/-- A row of communities that may be changed. -/
def Bump1 (w : World) (B : Nat) (ca : Option Addr) (n cc : Nat) : Prop := ∃ vs, w.ownsRow B 27 1 (.slice ca n cc) n vs ∧ ∀ j, j < n → ∃ z, vs[j]? = some (.int .u32 z)
theorem Bump1.at {w : World} {B k n cc : Nat} {ca : Option Addr} (h : Bump1 w B ca n cc) (hk : k < n) : ∃ g z, ca = some ⟨g, 0, none⟩ ∧ B ≤ g ∧ g < w.heap.size ∧ w.cell? ⟨g, k, none⟩ = some (.int .u32 z) ∧ w.frozen? ⟨g, k, none⟩ = false := by
  obtain ⟨vs, ho, hv⟩ := h
  obtain ⟨g, cap, e, hg, _⟩ := ho.form (by omega)
  injection e with e1 _ e3
  subst e1 e3
  obtain ⟨z, hz⟩ := hv k hk
  exact ⟨g, z, rfl, hg, (ho.lt g rfl).2, by rw [ho.cellAt k (by omega)]; exact hz, ho.frozenAt k⟩
theorem Bump1.set {w : World} {B k n cc g : Nat} (h : Bump1 w B (some ⟨g, 0, none⟩) n cc) (z : Int) : Bump1 (w.setCell ⟨g, k, none⟩ (.int .u32 z)) B (some ⟨g, 0, none⟩) n cc := by
  obtain ⟨vs, ho, hv⟩ := h
  refine ⟨vs.set k (.int .u32 z), (ho.stored k _).1, fun j hj => ?_⟩
  by_cases e : j = k
  · subst e
    have hl : vs.length = n * 1 := ho.1
    exact ⟨z, by rw [List.getElem?_set_self (by omega)]⟩
  · obtain ⟨y, hy⟩ := hv j hj
    exact ⟨y, by rw [List.getElem?_set_ne (fun e9 => e e9.symm)]; exact hy⟩
theorem bump1_row {w : World} {B cc : Nat} {ca : Option Addr} {cs : List Nat} (h : w.ownsRow B 27 1 (.slice ca cs.length cc) cs.length (ucells cs)) : Bump1 w B ca cs.length cc :=
  ⟨_, h, fun j hj => ⟨_, by simp only [ucells, List.getElem?_map, List.getElem?_eq_getElem hj]; rfl⟩⟩
/-- The block of a row of communities. -/
def InRow (ca : Option Addr) (x : Nat) : Prop := ca = some ⟨x, 0, none⟩
theorem inRow_lt {w : World} {B cc n : Nat} {ca : Option Addr} {vs : List Value} (h : w.ownsRow B 27 1 (.slice ca n cc) n vs) : ∀ x, InRow ca x → B ≤ x ∧ x < w.heap.size ∧ ∀ C t z, w.heap[x]? = some (.cells C t z) → t = 27 := fun x hx => by
  unfold InRow at hx
  subst hx
  obtain ⟨h1, h2⟩ := own_block h x rfl
  refine ⟨h1, h2, fun C t z hC => ?_⟩
  rcases h.2 with ⟨e, _⟩ | ⟨g', cap, cur, e, _, hc, _⟩
  · cases e
  · injection e with e _ _
    injection e with e
    injection e with e _ _
    subst e
    rw [hC] at hc
    injection hc with hc
    injection hc
theorem Bl.keeps {F : Nat → Prop} {w w' : World} {X : Nat} {C : Array Value} (h : Bl w X C) (hk : Keeps F w w') (hX : ¬ F X) : Bl w' X C := by
  unfold Bl
  rw [hk.block X h.lt hX]
  exact h
/-- A row of one route. -/
theorem OwnTb.one {w : World} {B : Nat} {v : Value} {r : Rt} (h : OwnTb w B v [r]) : ∃ g c pa pc ca cc ra rc, v = .slice (some ⟨g, 0, none⟩) 1 c ∧ RtAt w g 0 r pa pc ca cc ra rc ∧ OwnAt w B pa pc ca cc ra rc r.att ∧ B ≤ g ∧ (∃ cur, w.heap[g]? = some (.cells cur 36 (0, 0))) ∧ okR r := by
  obtain ⟨cs, ho, hR⟩ := h
  obtain ⟨h0, pa, pc, ca, cc, ra, rc, h1, h2⟩ := hR 0 r rfl
  rcases ho.2 with ⟨_, e⟩ | ⟨g, cap, cur, e, hB, hg, _⟩
  · cases e
  · subst e
    refine ⟨g, cap, pa, pc, ca, cc, ra, rc, rfl, ⟨fun j x hx => ?_, h0.rd h2⟩, h2, hB, ⟨cur, hg⟩, h0⟩
    have hj : j < 11 := by have := (Array.getElem?_eq_some_iff.1 hx).1; rwa [rtC_size] at this
    have h9 := h1 j x hx
    rw [show 0 * 11 + j = j from by omega] at h9
    rw [Nat.zero_add, World.ownsRow.cellAt (n := 1) ho j (by omega)]
    exact h9
end Go.Proofs.Ytjlmkaeepeamkaa
