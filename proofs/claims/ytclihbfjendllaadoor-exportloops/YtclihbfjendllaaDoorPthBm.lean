/- A path of the call's own whose numbers are changed; its capacity; a row that was made with room. -/
import Derived.Test.YtclihbfjendllaaDoorKAl
import Derived.Laws.OwnMore
namespace Go.Proofs.YtclihbfjendllaaDoor
open Go.RowKit
set_option maxRecDepth 100000

/-- The n segments at block G have rows of numbers, all new since B; what the numbers are is not told. -/
def Bump (w : World) (B G n : Nat) (ns : Nat → Nat) : Prop :=
  ∀ i, i < n → ∃ a' c', w.cell? ⟨G, i * 2 + 1, none⟩ = some (.slice a' (ns i) c') ∧ ∀ k, k < ns i → ∃ g, a' = some ⟨g, 0, none⟩ ∧ B ≤ g ∧ g ≠ G ∧ (∃ x : Int, w.cell? ⟨g, k, none⟩ = some (.int .i64 x)) ∧ w.frozen? ⟨g, k, none⟩ = false
theorem Bump.set {w : World} {B G n : Nat} {ns : Nat → Nat} (h : Bump w B G n ns) (g j : Nat) (x y : Int) (hg : g ≠ G) (hx : w.cell? ⟨g, j, none⟩ = some (.int .i64 x)) : Bump (w.setCell ⟨g, j, none⟩ (.int .i64 y)) B G n ns := by
  intro i hi
  obtain ⟨a', c', h1, h2⟩ := h i hi
  refine ⟨a', c', ?_, fun k hk => ?_⟩
  · rw [World.cell?_setCell_other _ _ _ _ (by intro e; injection e with e1 _ _; exact hg e1)]; exact h1
  · obtain ⟨g', e, hB, hne, ⟨x', hx'⟩, hz⟩ := h2 k hk
    refine ⟨g', e, hB, hne, ?_, by rw [World.frozen?_setCell]; exact hz⟩
    by_cases he : (⟨g', k, none⟩ : Addr) = ⟨g, j, none⟩
    · rw [he]
      exact ⟨y, World.cell?_setCell_same _ _ _ hx⟩
    · exact ⟨x', by rw [World.cell?_setCell_other _ _ _ _ (fun e9 => he e9.symm)]; exact hx'⟩
theorem Bump.of_own {w : World} {B : Nat} {v : Value} {ss : List (Bool × List Int)} (h : OwnPath w B v ss) (hp : 0 < ss.length) : ∃ G C, v = .slice (some ⟨G, 0, none⟩) ss.length C ∧ Bump w B G ss.length (fun i => (ss.getD i (false, [])).2.length) := by
  obtain ⟨cs, ho, hc⟩ := h
  obtain ⟨G, C, rfl, hG, _⟩ := ho.form hp
  refine ⟨G, C, rfl, fun i hi => ?_⟩
  have hs : ss[i]? = some ss[i] := List.getElem?_eq_getElem hi
  have hd : ss.getD i (false, []) = ss[i] := by simp [List.getD_eq_getElem?_getD, hs]
  obtain ⟨_, u, h2, h3⟩ := hc i _ hs
  simp only [hd]
  have hh := h3
  rcases h3.2 with ⟨rfl, h0⟩ | ⟨g, cap, cur, rfl, hgB, _⟩
  · exact ⟨none, 0, by rw [ho.cellAt (i * 2 + 1) (by omega), h2, h0], fun k hk => absurd hk (by omega)⟩
  · refine ⟨_, _, by rw [ho.cellAt (i * 2 + 1) (by omega)]; exact h2, fun k hk => ⟨g, rfl, hgB, fun e => ?_, ⟨(ss[i]).2[k], ?_⟩, hh.frozenAt k⟩⟩
    · exact own_apart hh ho (by decide) g rfl (by rw [e]; rfl)
    · rw [hh.cellAt k (by omega)]
      exact icells_get _ k _ (List.getElem?_eq_getElem hk)
theorem OwnPath.cap {w : World} {B : Nat} {ss : List (Bool × List Int)} {a : Option Addr} {n c : Nat} (h : OwnPath w B (.slice a n c) ss) : ss.length ≤ c := by
  obtain ⟨cs, ho, _⟩ := h
  rcases ho.2 with ⟨e, h0⟩ | ⟨g, cap, cur, e, _, _, h1, _⟩
  · omega
  · simp only [Value.slice.injEq] at e
    obtain ⟨_, _, rfl⟩ := e
    exact h1
theorem run_make_some (n : Nat) (hn : n ≤ 200000) (w : World) : (Instr.makeSlice 67 (.int .i64 0) (.int .i64 (n : Int))).run Tryd.prog w =
    .ok (.slice (some ⟨w.heap.size, 0, none⟩) 0 n) (w.alloc (.cells (icells (List.replicate n 0)).toArray 3)) := by
  obtain ⟨i0, hi0, hz0, hz1, hz2⟩ := info_parts Tryd.infoInt
  have := run_make (P := Tryd.prog) w 67 3 i0 _ Tryd.underlying67 hi0 hz0 .i64 .i64 0 (n : Int) (by omega) (by omega) (by rw [hz2]; omega) (by omega)
  simp only [Int.toNat_natCast, hz1, Value.cells, Nat.mul_one, Int.toNat_zero] at this
  rw [this]
  congr 3
  apply Array.ext_getElem?
  intro k
  by_cases hk : k < n
  · simp [madeCells, icells, hk, Nat.mod_one]
  · simp [madeCells, icells, hk]
theorem own_room (w : World) (n : Nat) (hn : n ≤ 200000) : (w.alloc (.cells (icells (List.replicate n 0)).toArray 3)).ownsRow w.heap.size 3 1 (.slice (some ⟨w.heap.size, 0, none⟩) 0 n) 0 (icells []) :=
  ⟨by simp [icells], .inr ⟨w.heap.size, n, _, rfl, Nat.le_refl _, by unfold World.alloc; exact Array.getElem?_push_size, Nat.zero_le _, by unfold maxLen; omega, by simp [icells], by simp [icells]⟩⟩
theorem prepP_pos (z : Int) (ss : List (Bool × List Int)) : 0 < (prepP z ss).length := by
  cases ss with
  | nil => simp [prepP]
  | cons s r => simp only [prepP]; split <;> simp
theorem prepP_len (z : Int) (ss : List (Bool × List Int)) : (prepP z ss).length ≤ ss.length + 1 := by
  cases ss with
  | nil => simp [prepP]
  | cons s r => simp only [prepP]; split <;> simp
theorem prepP_sum (z : Int) (ss : List (Bool × List Int)) : sumP (prepP z ss) = sumP ss + 1 := by
  cases ss with
  | nil => simp [prepP, sumP]
  | cons s r => simp only [prepP]; split <;> simp [sumP] <;> omega
theorem lenP_prep (z : Int) (ss : List (Bool × List Int)) : lenP (prepP z ss) = lenP ss + 1 := by
  cases ss with
  | nil => simp [prepP, lenP]
  | cons s r =>
    simp only [prepP]
    split
    · next h => simp [lenP, h.1]; omega
    · simp [lenP]; omega
end Go.Proofs.YtclihbfjendllaaDoor
