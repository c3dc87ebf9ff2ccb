/- The program's Decode of an OPEN. -/
import Derived.Test.YtkmfnafecdfedaaGreatDoorMgD3
import Derived.Test.YtkmfnafecdfedaaGreatDoorHMp
namespace Go.Proofs.YtkmfnafecdfedaaGreatDoor
open Go.RowKit
set_option maxRecDepth 100000

/-- A message that has but a kind and an OPEN's cells. -/
def openMsg (k : Int) (O : Array Value) : Array Value := #[.int .i64 k] ++ O ++ #[.slice none 0 0, .int .i64 0, .slice none 0 0, .int .u32 0, .int .i64 0, .int .i64 0, .slice none 0 0, .slice none 0 0, .slice none 0 0, .int .i64 0, .int .i64 0, .slice none 0 0]
theorem MC.openMsg (k : Int) {O : Array Value} (h : OC O) : MC (openMsg k O) := by
  refine ⟨by simp [Proofs.YtkmfnafecdfedaaGreatDoor.openMsg, h.1], ?_⟩
  have h2 := h.2
  unfold Proofs.YtkmfnafecdfedaaGreatDoor.openMsg
  simp only [Array.all_append, h2]
  simp [Value.oneCell']
/-- An OPEN is stored into the message's box. -/
theorem store_open {w : World} {Y : Nat} {k : Int} {O : Array Value} (hO : OC O) (h : w.heap[Y]? = some (.cells (msgC k 0 0 (.slice none 0 0)) 40 (0, 0))) :
    ∃ W8, (Instr.storeAt 28 (.pointer (some ⟨Y, 1, none⟩)) (.agg O)).run Tryz.prog w = .ok () W8 ∧ W8.heap[Y]? = some (.cells (openMsg k O) 40 (0, 0)) ∧ (∀ j, j ≠ Y → W8.heap[j]? = w.heap[j]?) ∧ W8.heap.size = w.heap.size ∧ Keeps (fun x => x = Y) w W8 := by
  have ht : w.there Y 1 O.size := fun j hj => by
    rw [hO.1] at hj
    refine ⟨?_, by simp [World.frozen?, h]⟩
    have : 1 + j < (msgC k 0 0 (.slice none 0 0)).size := by show 1 + j < 25; omega
    simp only [World.cell?, h]
    rw [Array.getElem?_eq_getElem this]
    rfl
  have hk : Keeps (fun x => x = Y) w (w.setCells Y 1 O.toList) := (Keeps.refl _ _).setCells Y 1 _ (.inl rfl)
  have hsz : ∀ (vs : List Value) (o : Nat) (w : World), (w.setCells Y o vs).heap.size = w.heap.size := by
    intro vs
    induction vs with
    | nil => intro o w; rfl
    | cons v r ih => intro o w; rw [World.setCells, ih]; simp
  refine ⟨w.setCells Y 1 O.toList, run_storeAt_mid (P := Tryz.prog) w Y 1 28 O ht (by rw [infoO, hO.1]) hO.2, ?_, fun j hj => ?_, hsz _ _ _, hk⟩
  · obtain ⟨C', h2, h3⟩ := shape_set O.toList 1 w _ h
    have hin := World.rangeAt_setCells_same w Y 1 O.toList (by simpa using ht)
    have hC : ∀ j, C'[j]? = (w.setCells Y 1 O.toList).cell? ⟨Y, j, none⟩ := fun j => by simp [World.cell?, h2]
    have h0 : ∀ j, (msgC k 0 0 (.slice none 0 0))[j]? = w.cell? ⟨Y, j, none⟩ := fun j => by simp [World.cell?, h]
    have : C' = openMsg k O := by
      apply Array.ext_getElem?
      intro j
      have hs12 := hO.1
      rw [hC]
      by_cases hj : 1 ≤ j ∧ j < 13
      · have h5 := hin (j - 1) O[j - 1] (by rw [Array.getElem?_toList, Array.getElem?_eq_getElem (by omega)])
        rw [show 1 + (j - 1) = j by omega] at h5
        rw [h5]
        unfold openMsg
        rw [Array.getElem?_append_left (by simp; omega), Array.getElem?_append_right (by simp; omega)]
        simp [Array.getElem?_eq_getElem (show j - 1 < O.size by omega)]
      · rw [World.cell?_setCells_out Y O.toList 1 w ⟨Y, j, none⟩ (fun _ _ => by show j < 1 ∨ 1 + O.toList.length ≤ j; simp [hs12]; omega), ← h0]
        unfold openMsg
        by_cases hj0 : j = 0
        · subst hj0
          rw [Array.getElem?_append_left (by simp; omega), Array.getElem?_append_left (by simp)]
          rfl
        · rw [Array.getElem?_append_right (by simp; omega)]
          by_cases h25 : j < 25
          · have hjs : j = 13 ∨ j = 14 ∨ j = 15 ∨ j = 16 ∨ j = 17 ∨ j = 18 ∨ j = 19 ∨ j = 20 ∨ j = 21 ∨ j = 22 ∨ j = 23 ∨ j = 24 := by omega
            have e13 : (#[Value.int .i64 k] ++ O).size = 13 := by simp [hs12]
            rw [e13]
            rcases hjs with rfl | rfl | rfl | rfl | rfl | rfl | rfl | rfl | rfl | rfl | rfl | rfl <;> rfl
          · rw [Array.getElem?_eq_none (by show 25 ≤ j; omega), Array.getElem?_eq_none (by simp [hs12]; omega)]
    rw [h2, this]
  · by_cases hjj : j < w.heap.size
    · exact hk.block j hjj hj
    · rw [Array.getElem?_eq_none (by rw [hsz]; omega), Array.getElem?_eq_none (by omega)]
end Go.Proofs.YtkmfnafecdfedaaGreatDoor
