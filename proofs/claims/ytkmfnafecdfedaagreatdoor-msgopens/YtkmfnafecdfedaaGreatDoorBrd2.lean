/- More of bytes that are read, and of rows of the call's own. -/
import Derived.Test.YtkmfnafecdfedaaGreatDoorHSm
namespace Go.Proofs.YtkmfnafecdfedaaGreatDoor
open Go.RowKit
set_option maxRecDepth 100000

theorem BRd.keeps {F : Nat → Prop} {w w' : World} {a : Option Addr} {bs : List Nat} (h : BRd w a bs) (hk : Keeps F w w') (hn : ∀ x, a = some x → 0 < bs.length → ¬ F x.block) : BRd w' a bs := ⟨h.1.keeps hk hn, h.2⟩
/-- What lies from place k on. -/
theorem brd_from {w : World} {b o : Nat} {bs : List Nat} (h : BRd w (some ⟨b, o, none⟩) bs) (k l : Nat) (hk : k + l ≤ bs.length) : BRd w (some ⟨b, o + k, none⟩) ((bs.drop k).take l) := by
  have hle : ((bs.drop k).take l).length = l := by rw [List.length_take, List.length_drop]; omega
  refine ⟨⟨by have := h.1.1; omega, fun hp => ⟨b, o + k, rfl, fun i hi => ?_⟩⟩, fun x hx => h.2 x (List.mem_of_mem_drop (List.mem_of_mem_take hx))⟩
  obtain ⟨b9, o9, e9, h8⟩ := h.1.2 (by omega)
  cases e9
  have h9 : w.cell? ⟨b, o + (k + i), none⟩ = some (.int .u8 (bs.getD (k + i) 0 : Int)) := h8 (k + i) (by omega)
  rw [← Nat.add_assoc] at h9
  show _ = some (Value.int .u8 ((((bs.drop k).take l).getD i 0 : Nat) : Int))
  rw [h9, List.getD_eq_getElem?_getD, List.getD_eq_getElem?_getD, List.getElem?_take_of_lt (by omega), List.getElem?_drop]
theorem brd_none (w : World) (a : Option Addr) : BRd w a [] := ⟨Rw.nil _ _ _, by simp⟩
theorem brd_take {w : World} {a : Option Addr} {bs : List Nat} (h : BRd w a bs) (k : Nat) : BRd w a (bs.take k) := by
  refine ⟨⟨by have := h.1.1; rw [List.length_take]; omega, fun hp => ?_⟩, fun x hx => h.2 x (List.mem_of_mem_take hx)⟩
  rw [List.length_take] at hp
  obtain ⟨b, o, rfl, hc⟩ := h.1.2 (by omega)
  refine ⟨b, o, rfl, fun i hi => ?_⟩
  rw [List.length_take] at hi
  have h9 : w.cell? ⟨b, o + i, none⟩ = some (.int .u8 (bs.getD i 0 : Int)) := hc i (by omega)
  show _ = some (Value.int .u8 (((bs.take k).getD i 0 : Nat) : Int))
  rw [h9, List.getD_eq_getElem?_getD, List.getD_eq_getElem?_getD, List.getElem?_take_of_lt (by omega)]
/-- An empty row that was made just now. -/
theorem own_empty (w : World) : (w.alloc (.cells #[] 5)).ownsRow w.heap.size 5 1 (.slice (some ⟨w.heap.size, 0, none⟩) 0 0) 0 (bcells []) :=
  ⟨rfl, .inr ⟨w.heap.size, 0, #[], rfl, Nat.le_refl _, by unfold World.alloc; exact Array.getElem?_push_size, Nat.le_refl _, by unfold maxLen; omega, rfl, rfl⟩⟩
theorem append_nn {t e size bytes : Nat} (he : Elem t e size bytes) (w : World) (c : Nat) :
    (Builtin.append_ #[t, t] t #[.slice none 0 0, .slice none 0 c]).run Tryz.prog w = .ok (.slice none 0 0) w := by
  obtain ⟨i, z, hi, _⟩ := he.info
  have ht := he.sl
  simp [Builtin.append_, run_underlying ht, sizeOf, typeInfo, hi, Builtin.lenOf, Builtin.firstCells, go_sem]
/-- Bytes that are read, behind any row of the call's own. -/
theorem app_any {w : World} {B : Nat} {v : Value} {ys : List Nat} (zs : List Nat) (a : Option Addr) (c : Nat) (ho : w.ownsRow B 5 1 v ys.length (bcells ys)) (hB : B ≤ w.heap.size) (hl : ys.length + zs.length ≤ 500000) (h : BRd w a zs) :
    ∃ v' w', (Builtin.append_ #[22, 22] 22 #[v, .slice a zs.length c]).run Tryz.prog w = .ok v' w' ∧ w'.ownsRow B 5 1 v' (ys ++ zs).length (bcells (ys ++ zs)) ∧ Below B w w' := by
  have ho2 := ho
  rcases ho.2 with ⟨e, h0⟩ | ⟨g, cap, cur, e, _⟩
  · subst e
    cases a with
    | none =>
      have hz : zs = [] := by
        cases zs with
        | nil => rfl
        | cons z r => obtain ⟨b, off, e, _⟩ := h.1.2 (by simp); cases e
      subst hz
      exact ⟨_, w, append_nn elemU8 w c, by rw [List.append_nil]; exact ho2, Below.refl _ _⟩
    | some ad =>
      have hc : ∀ j x, (bcells zs)[j]? = some x → w.cell? (ad.add j) = some x := fun j x hx => by
        have hj : j < zs.length := by have := (List.getElem?_eq_some_iff.1 hx).1; rwa [bcells_length] at this
        obtain ⟨b, off, e, h5⟩ := h.1.2 (by omega)
        cases e
        rw [Addr.add_mid, h5 j hj, ← hx]
        simp [bcells, hj]
      obtain ⟨v', w', hr, h2, h3, _, _⟩ := app_more elemU8 ho2 hB ad zs.length c (bcells zs) (by rw [bcells_length]; omega) hc (bcells_one _) (by omega)
      exact ⟨v', w', hr, by rw [bcells_app, List.length_append]; exact h2, h3⟩
  · subst e
    exact app_brd zs a c rfl ho2 hB hl h
end Go.Proofs.YtkmfnafecdfedaaGreatDoor
