/- 'answers' of the laws of layer 11. -/
import Derived.Test.YtfecknbneonidaaTrL
import Derived.Test.YtfecknbneonidaaTrD
import Derived.Test.YtfecknbneonidaaTrF
namespace Go.Proofs.Ytfecknbneonidaa
open Go.RowKit
set_option maxRecDepth 100000

/-- One prefix alone. -/
def oneC (a n : Nat) (v : Int) : Nat → Nat → Option Int := upd (fun _ _ => none) a n (some v)
theorem oneC_some {a n x m : Nat} {v : Int} : (oneC a n v x m).isSome = true ↔ x = a ∧ m = n := by
  unfold oneC
  by_cases e : x = a ∧ m = n
  · rw [e.1, e.2, upd_self]; simp
  · rw [upd_ne _ _ _ _ _ _ e]
    simp only [Option.isSome_none, Bool.false_eq_true, false_iff]
    exact e
theorem all_one {a n : Nat} {v : Int} (hk : Key a n) : allC (oneC a n v) 32 0 0 = [(a, n)] :=
  allC_is (List.pairwise_singleton _ _) (fun x m h => by obtain ⟨rfl, rfl⟩ := oneC_some.1 h; exact hk) fun x m => by rw [oneC_some, List.mem_singleton, Prod.mk.injEq]
set_option maxHeartbeats 800000 in
theorem answers_any (w : World) : Calls Try.prog 7 #[] w fun e w' => e = .returned (.bool true) ∧ Below w.heap.size w w' := by
  have r8 : rightB 167772160 (8 : Int) = true := by decide
  have hs := fun (w1 : World) (h : TrieIs w1 w.heap.size (oneN w.heap.size) (fun _ _ => none)) => set_right 167772160 8 w.heap.size 5 w1 _ _ (by omega) r8 h
  have l8 : longC (oneC 167772160 8 5) 167838211 33 = some (8, 5) := by decide
  have hf := fun (w1 : World) (N : Nat → Nat → Option Nat) (h : TrieIs w1 w.heap.size N (oneC 167772160 8 5)) => find_any 167838211 w.heap.size w1 N _ (by omega) h
  rw [l8] at hf
  have k8 : Key 167772160 8 := ⟨by decide, by decide, by decide⟩
  have ha := fun (w1 : World) (N : Nat → Nat → Option Nat) (h : TrieIs w1 w.heap.size N (oneC 167772160 8 5)) => all_any w.heap.size w1 N _ h (by rw [all_one k8]; decide)
  rw [all_one k8] at ha
  have HS := hide hs
  have HF := hide hf
  have HA := hide ha
  clear hs hf ha r8 l8 k8
  go_enter Try.func7, Try.ntmps7
  go_wp2_with fail
  refine (new_any _).mono ?_
  rintro e w1 ⟨rfl, rfl⟩
  have HT := hide (trie_new w 55)
  have HB1 : Hid (Below w.heap.size w (w.alloc (.cells #[.pointer none, .pointer none, .bool false, .int .i64 0] 55))) := (Below.refl _ _).alloc (Nat.le_refl _) _
  generalize w.alloc (.cells #[.pointer none, .pointer none, .bool false, .int .i64 0] 55) = w1 at *
  go_wp2_with fail
  refine (HS.out w1 HT.out).mono ?_
  rintro e w2 ⟨rfl, N2, ht2, hk2, _⟩
  have HB2 : Hid (Below w.heap.size w w2) := HB1.out.trans (hk2.below _ HB1.out.size fun b hb => by obtain ⟨x, y, h⟩ := hb; obtain ⟨_, _, rfl⟩ := oneN_some h; exact Nat.le_refl _)
  have HT2 : Hid (TrieIs w2 w.heap.size N2 (oneC 167772160 8 5)) := ht2
  clear ht2 hk2
  go_wp2_with fail
  refine (HF.out w2 N2 HT2.out).mono ?_
  rintro e w3 ⟨rfl, hb3⟩
  have HB3 : Hid (Below w.heap.size w w3) := HB2.out.trans (hb3.mono HB2.out.size)
  have HT3 : Hid (TrieIs w3 w.heap.size N2 (oneC 167772160 8 5)) := HT2.out.later hb3
  clear hb3
  unfold pfx
  have HT4 : Hid (TrieIs (w3.alloc (.cells #[.int .u32 (cutTo 167838211 (bitsL (some (8, 5))) : Int), .int .i64 (bitsL (some (8, 5)) : Int)] 31)) w.heap.size N2 (oneC 167772160 8 5)) := HT3.out.later ((Below.refl _ _).alloc (Nat.le_refl _) _)
  have HB4 : Hid (Below w.heap.size w (w3.alloc (.cells #[.int .u32 (cutTo 167838211 (bitsL (some (8, 5))) : Int), .int .i64 (bitsL (some (8, 5)) : Int)] 31))) := HB3.out.alloc HB3.out.size _
  have hv : valL (some (8, 5)) = 5 := rfl
  have hbl : bitsL (some (8, 5)) = 8 := rfl
  rw [hbl] at *
  rw [hv]
  go_wp2_with fail
  refine (HA.out _ N2 HT4.out).mono ?_
  rintro e w5 ⟨v5, rfl, ho5, hb5⟩
  have HB5 : Hid (Below w.heap.size w w5) := HB4.out.trans (hb5.mono HB4.out.size)
  obtain ⟨a5, c5, rfl⟩ := slice_of ho5
  clear ho5 hb5
  go_wp2
  go_ret
  exact ⟨rfl, HB5.out⟩
end Go.Proofs.Ytfecknbneonidaa
