/- Bytes that are read; bytes behind a row of the call's own. -/
import Derived.Test.YtmpnnfbpknfekaaSmB
namespace Go.Proofs.Ytmpnnfbpknfekaa
open Go.RowKit
set_option maxRecDepth 100000

/-- The slice's elements are the bytes bs. -/
def BRd (w : World) (a : Option Addr) (bs : List Nat) : Prop := Rw w a bs.length (fun j => bs.getD j 0) ∧ ∀ x ∈ bs, x < 256
theorem BRd.below {w w' : World} {a : Option Addr} {bs : List Nat} (h : BRd w a bs) (hb : Below w.heap.size w w') : BRd w' a bs := ⟨h.1.below hb, h.2⟩
theorem append_nil {t e size bytes : Nat} (he : Elem t e size bytes) (w : World) (b : Addr) (n cap c : Nat) (hn : n ≤ cap) :
    (Builtin.append_ #[t, t] t #[.slice (some b) n cap, .slice none 0 c]).run Try.prog w = .ok (.slice (some b) n cap) w := by
  obtain ⟨i, z, hi, _⟩ := he.info
  have ht := he.sl
  simp [Builtin.append_, run_underlying ht, sizeOf, typeInfo, hi, hn, Builtin.lenOf, Builtin.firstCells, go_sem, storeCells]
/-- Bytes that are read, behind a row of the call's own. -/
theorem app_brd {w : World} {B g n k : Nat} {ys : List Nat} (zs : List Nat) (a : Option Addr) (c : Nat) (hn : ys.length = n) (ho : w.ownsRow B 5 1 (.slice (some ⟨g, 0, none⟩) n k) n (bcells ys)) (hB : B ≤ w.heap.size) (hl : n + zs.length ≤ 500000) (h : BRd w a zs) :
    ∃ v' w', (Builtin.append_ #[36, 36] 36 #[.slice (some ⟨g, 0, none⟩) n k, .slice a zs.length c]).run Try.prog w = .ok v' w' ∧ w'.ownsRow B 5 1 v' (ys ++ zs).length (bcells (ys ++ zs)) ∧ Below B w w' := by
  have key : ∀ ad : Addr, a = some ad → (∀ j x, (bcells zs)[j]? = some x → w.cell? (ad.add j) = some x) → ∃ v' w', (Builtin.append_ #[36, 36] 36 #[.slice (some ⟨g, 0, none⟩) n k, .slice a zs.length c]).run Try.prog w = .ok v' w' ∧ w'.ownsRow B 5 1 v' (ys ++ zs).length (bcells (ys ++ zs)) ∧ Below B w w' := by
    intro ad e hc
    subst e
    obtain ⟨v', w', hr, h2, h3, _, _⟩ := app_more elemU8 ho hB ad zs.length c (bcells zs) (by rw [bcells_length]; omega) hc (bcells_one _) (by omega)
    exact ⟨v', w', hr, by rw [bcells_app, List.length_append, hn]; exact h2, h3⟩
  cases a with
  | none =>
    have h0 : zs = [] := by
      cases zs with
      | nil => rfl
      | cons z r => obtain ⟨b, off, e, _⟩ := h.1.2 (by simp); cases e
    subst h0
    have hk : n ≤ k := by
      rcases ho.2 with ⟨e, _⟩ | ⟨g', cap, cur, e, _, _, h1, _⟩
      · cases e
      · simp only [Value.slice.injEq] at e
        obtain ⟨_, _, rfl⟩ := e
        exact h1
    exact ⟨_, w, append_nil elemU8 w _ n k c hk, by rw [List.append_nil, hn]; exact ho, Below.refl _ _⟩
  | some ad =>
    cases zs with
    | nil => exact key ad rfl (fun j x hx => by simp [bcells] at hx)
    | cons y r =>
      obtain ⟨b, off, e, hc⟩ := h.1.2 (by simp)
      refine key ad rfl (fun j x hx => ?_)
      cases e
      have hj : j < (y :: r).length := by have := (List.getElem?_eq_some_iff.1 hx).1; rwa [bcells_length] at this
      have h5 := hc j hj
      rw [Addr.add_mid, h5]
      have h6 : (bcells (y :: r))[j]? = some (.int .u8 (((y :: r).getD j 0 : Nat) : Int)) := by
        simp only [bcells, List.getElem?_map, List.getElem?_eq_getElem hj, Option.map_some, List.getD_eq_getElem?_getD, Option.getD_some]
      rw [h6] at hx
      exact hx
/-- A row of the call's own, read. -/
theorem own_brd {w : World} {B : Nat} {v : Value} {bs : List Nat} (h : w.ownsRow B 5 1 v bs.length (bcells bs)) (hl : bs.length ≤ 500000) (hb : ∀ x ∈ bs, x < 256) : ∃ a c, v = .slice a bs.length c ∧ bs.length ≤ c ∧ BRd w a bs := by
  have hh := h
  rcases h.2 with ⟨rfl, h0⟩ | ⟨g, cap, cur, rfl, _, _, hc, _⟩
  · exact ⟨none, 0, by rw [h0], by omega, by rw [h0]; exact Rw.nil _ _ _, hb⟩
  · refine ⟨_, _, rfl, hc, ⟨by unfold maxLen; omega, fun _ => ⟨g, 0, rfl, fun i hi => ?_⟩⟩, hb⟩
    rw [Nat.zero_add, hh.cellAt i (by omega)]
    simp [bcells, List.getD_eq_getElem?_getD, hi]
/-- Some bytes more. -/
theorem more_bytes {wq : World} {B : Nat} {v : Value} {bs : List Nat} (ho : wq.ownsRow B 5 1 v bs.length (bcells bs)) (hB : B ≤ wq.heap.size) (ys : List Nat) (m : Nat) (cur : Array Value) (hm : ys.length = m) (hm4 : m ≤ 8) (hcur : cur = (bcells ys).toArray) (hl : bs.length ≤ 900000) :
    ∃ v' w', (Builtin.append_ #[36, 36] 36 #[v, .slice (some ⟨wq.heap.size, 0, none⟩) m m]).run Try.prog (wq.alloc (.cells cur 5)) = .ok v' w' ∧ w'.ownsRow B 5 1 v' (bs ++ ys).length (bcells (bs ++ ys)) ∧ Below B wq w' ∧ ∀ X, X < wq.heap.size → v.ownBlock ≠ some X → w'.heap[X]? = wq.heap[X]? := by
  subst hcur
  obtain ⟨v', w', hr, h2, h3, h4, h5⟩ := app_more elemU8 (w := wq.alloc (.cells (bcells ys).toArray 5)) (ho.alloc _) (by simp; omega) ⟨wq.heap.size, 0, none⟩ m m (bcells ys) (by rw [bcells_length]; omega) (fun j u hu => by
    rw [Addr.add_mid, Nat.zero_add, World.cell?_alloc_mark]
    simpa using hu) (bcells_one _) (by omega)
  refine ⟨v', w', hr, ?_, ((Below.refl _ _).alloc hB _).trans h3, fun X hX hne => ?_⟩
  · rw [bcells_app, List.length_append, hm]; exact h2
  · rw [h4.block X (by simp; omega) (Ne.symm hne)]
    unfold World.alloc
    simp only
    rw [Array.getElem?_push_lt hX, Array.getElem?_eq_getElem hX]
theorem own_base {w : World} {B B' e size n : Nat} {v : Value} {xs : List Value} (h : w.ownsRow B e size v n xs) (hB : B' ≤ B) : w.ownsRow B' e size v n xs := by
  refine ⟨h.1, ?_⟩
  rcases h.2 with hh | ⟨g, cap, cur, e1, hg, rest⟩
  · exact .inl hh
  · exact .inr ⟨g, cap, cur, e1, by omega, rest⟩
theorem own_grown {w w' : World} {B e size n : Nat} {v : Value} {xs : List Value} {row : Option Nat} (h : w.ownsRow B e size v n xs) (hg : w.grownBy w' row) (hne : ∀ b, v.ownBlock = some b → row ≠ some b) : w'.ownsRow B e size v n xs := by
  refine ⟨h.1, ?_⟩
  rcases h.2 with hh | ⟨g, cap, cur, e1, hb, hc, rest⟩
  · exact .inl hh
  · refine .inr ⟨g, cap, cur, e1, hb, ?_, rest⟩
    rw [hg.block g (Array.getElem?_eq_some_iff.1 hc).1 (fun e => hne g (by rw [e1]; rfl) e.symm)]
    exact hc
/-- Rows of unlike elements lie in unlike blocks. -/
theorem own_apart {w : World} {B B' e e' size size' n n' : Nat} {v v' : Value} {xs xs' : List Value} (h : w.ownsRow B e size v n xs) (h' : w.ownsRow B' e' size' v' n' xs') (hne : e ≠ e') (b : Nat) (hb : v.ownBlock = some b) : v'.ownBlock ≠ some b := by
  intro hb'
  rcases h.2 with ⟨rfl, _⟩ | ⟨g, cap, cur, rfl, _, hc, _⟩
  · simp [Value.ownBlock] at hb
  · rcases h'.2 with ⟨rfl, _⟩ | ⟨g', cap', cur', rfl, _, hc', _⟩
    · simp [Value.ownBlock] at hb'
    · simp [Value.ownBlock] at hb hb'
      subst hb hb'
      rw [hc] at hc'
      simp at hc'
      exact hne hc'.2
end Go.Proofs.Ytmpnnfbpknfekaa
