/- KEEPALIVEs and NOTIFICATIONs one behind the other. -/
import Derived.Test.YtflhohfeahcnfaaGreatDoorStH
namespace Go.Proofs.YtflhohfeahcnfaaGreatDoor
open Go.RowKit
set_option maxRecDepth 100000

theorem alvB_head (r : List Nat) : headM (alvB ++ r) = (19, 0, 0, []) := by
  have hf : ff16.length = 16 := rfl
  have e : alvB ++ r = ff16 ++ ([0, 19, 4] ++ r) := by simp [alvB]
  have g : ∀ i, (alvB ++ r).getD (16 + i) 0 = ([0, 19, 4] ++ r).getD i 0 := fun i => by
    rw [e, List.getD_eq_getElem?_getD, List.getD_eq_getElem?_getD, List.getElem?_append_right (by rw [hf]; omega), hf, show 16 + i - 16 = i from by omega]
  have hz : hdSize (alvB ++ r) = 19 := by unfold hdSize; rw [show (16 : Nat) = 16 + 0 from rfl, show (17 : Nat) = 16 + 1 from rfl, g 0, g 1]; rfl
  have hk : hdKind (alvB ++ r) = 4 := g 2
  have hlen : (alvB ++ r).length = 19 + r.length := by rw [List.length_append, alv_len]
  have ht : (alvB ++ r).take 16 = List.replicate 16 255 := by
    rw [e, List.take_append_of_le_length (by decide)]
    rfl
  rw [headM_good (by omega) (by rw [ht]; simp) (by rw [hz]; omega) (by rw [hk]; omega) (by rw [hk, hz]; simp [leastOf, mostOf]), hz]
/-- A KEEPALIVE that waits, ahead of whatever. -/
theorem next_alv (S g o m cp : Nat) (r : List Nat) (sq : Int) (dv : Value) (w : World) (h : StrAt w S (.slice (some ⟨g, o, none⟩) m cp) 0 sq dv) (hm : (alvB ++ r).length = m) (hml : m ≤ 100000) (hcap : m ≤ cp) (hb : BRd w (some ⟨g, o, none⟩) (alvB ++ r)) (hS : SaidM w) :
    Calls Tryz.prog 19 #[.pointer (some ⟨S, 0, none⟩)] w fun e w' => ∃ v, e = .returned (.tuple #[.agg (msgC 4 0 0 (.slice none 0 0)), .agg #[.int .i64 0, .int .i64 0, v], .bool true]) ∧ (∃ va vn vc, v = .slice va vn vc) ∧ Hid (∃ d', StrAt w' S (restV g o m cp 19) 0 0 d') ∧ Hid (Keeps (fun x => x = S) w w') := by
  have hz : 19 ≤ m := by rw [← hm, List.length_append, alv_len]; omega
  have hbt : BRd w (some ⟨g, o, none⟩) alvB := by
    have h9 := brd_take hb 19
    rwa [List.take_left' alv_len] at h9
  refine (next_whole (fun C k q v B W => RAl C k q v B W ∧ ∃ va vn vc, v = .slice va vn vc) (fun C k q v B W1 W2 F _ _ h => h) S g o m cp 19 (alvB ++ r) sq dv w h hm hml hcap hb hS (alvB_head r) (by omega) hz (fun W hW => ?_)).mono ?_
  · refine (dec_alive g o cp alvB W alv_len (by omega) (hbt.below hW) (hS.below hW) alv_head rfl).mono ?_
    rintro e W' ⟨a9, c9, rfl, hb9⟩
    exact ⟨_, 0, 0, a9, 0, c9, [], rfl, MC.msg 4 0 0 none 0 0, ⟨rfl, by omega, by simp, fun h => absurd rfl h⟩, ⟨⟨rfl, rfl, rfl⟩, _, _, _, rfl⟩, hb9⟩
  · rintro e w' ⟨C, k, q, v, rfl, ⟨B, _, ⟨rfl, rfl, rfl⟩, hv⟩, ⟨a9, c9, nn, hs⟩, hk⟩
    exact ⟨v, rfl, hv, ⟨_, hs⟩, hk⟩
def mB (k : Nat) : List Nat := if k % 2 = 0 then noteB 6 k [] else alvB
def manyB : List Nat → List Nat
  | [] => []
  | k :: r => mB k ++ manyB r
theorem manyB_app (a b : List Nat) : manyB (a ++ b) = manyB a ++ manyB b := by
  induction a with
  | nil => rfl
  | cons k r ih => simp only [List.cons_append, manyB, ih, List.append_assoc]
theorem mB_length (k : Nat) : (mB k).length ≤ 21 := by
  unfold mB
  split
  · rw [noteB_length]; simp
  · rw [alv_len]; omega
theorem manyB_length (l : List Nat) : (manyB l).length ≤ l.length * 21 := by
  induction l with
  | nil => exact Nat.le_refl _
  | cons k r ih => have := mB_length k; simp only [manyB, List.length_append, List.length_cons]; omega
/-- A message in a box of its own. -/
theorem store_new (w : World) {C : Array Value} (hC : MC C) : ∃ W1, (Instr.storeAt 40 (.pointer (some ⟨w.heap.size, 0, none⟩)) (.agg C)).run Tryz.prog (w.alloc (.cells zM 40)) = .ok () W1 ∧ W1.heap[w.heap.size]? = some (.cells C 40 (0, 0)) ∧ Below w.heap.size w W1 := by
  have h0 := heap_alloc_new w (.cells zM 40)
  have hb : Below w.heap.size w (w.alloc (.cells zM 40)) := (Below.refl _ _).alloc (Nat.le_refl _) _
  refine ⟨_, run_storeM h0 rfl hC, bx_put h0 hC.1, hb.trans ?_⟩
  exact ((Keeps.refl (fun x => x = w.heap.size) _).setCells w.heap.size 0 _ (.inl rfl)).below _ hb.size (fun x e => by omega)
theorem store_again {W1 : World} {p B : Nat} {C0 C : Array Value} (h0 : W1.heap[p]? = some (.cells C0 40 (0, 0))) (hC0 : C0.size = 25) (hC : MC C) (hB : B ≤ p) : ∃ W2, (Instr.storeAt 40 (.pointer (some ⟨p, 0, none⟩)) (.agg C)).run Tryz.prog W1 = .ok () W2 ∧ W2.heap[p]? = some (.cells C 40 (0, 0)) ∧ Below B W1 W2 := by
  refine ⟨_, run_storeM h0 hC0 hC, bx_put h0 (by rw [hC.1, hC0]), ?_⟩
  exact ((Keeps.refl (fun x => x = p) W1).setCells p 0 _ (.inl rfl)).below _ (by have := (Array.getElem?_eq_some_iff.1 h0).1; omega) (fun x e => by omega)
end Go.Proofs.YtflhohfeahcnfaaGreatDoor
