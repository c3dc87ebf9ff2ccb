/- MsgLimits' walk. -/
import Derived.Test.YtcbonpofbmogjaaGreatDoorMgAn
namespace Go.Proofs.YtcbonpofbmogjaaGreatDoor
open Go.RowKit
set_option maxRecDepth 100000

theorem brd_zeros (w : World) (n : Nat) (hn : n ≤ 100000) : BRd (w.alloc (.cells (bcells (List.replicate n 0)).toArray 5)) (some ⟨w.heap.size, 0, none⟩) (List.replicate n 0) := by
  refine ⟨⟨by rw [List.length_replicate]; unfold maxLen; omega, fun _ => ⟨_, 0, rfl, fun i hi => ?_⟩⟩, fun x hx => by have := (List.mem_replicate.1 hx).2; omega⟩
  rw [List.length_replicate] at hi
  rw [Nat.zero_add, World.cell?_alloc_mark]
  simp [bcells, hi, List.getD_eq_getElem?_getD]
/-- Encode of a NOTIFICATION with so many bytes of Data. -/
theorem enc_zeros {g : Nat} (k : Nat) (w : World) (hk : k ≤ 5000) (hr : BRd w (some ⟨g, 0, none⟩) (List.replicate k 0)) :
    Calls Tryz.prog 17 #[.agg (msgC 3 6 0 (.slice (some ⟨g, 0, none⟩) k k))] w fun e w' => ∃ a n c, e = .returned (.slice a n c) ∧ n = (if k + 21 ≤ 4096 then k + 21 else 0) ∧ Below w.heap.size w w' := by
  have hl : (List.replicate k 0).length = k := List.length_replicate
  have K : ∀ o, Calls Tryz.prog 31 #[.agg (msgC 3 6 0 (.slice (some ⟨g, 0, none⟩) k k))] (w.alloc o) fun e w' => ∃ v, e = .returned (.tuple #[v, .bool true]) ∧ w'.ownsRow (w.alloc o).heap.size 5 1 v ([6, 0] ++ List.replicate k 0).length (bcells ([6, 0] ++ List.replicate k 0)) ∧ Below (w.alloc o).heap.size (w.alloc o) w' := fun o => by
    have := bodyof_note 6 0 (some ⟨g, 0, none⟩) k (List.replicate k 0) (w.alloc o) (by decide) (by decide) (by omega) (hr.below ((Below.refl _ _).alloc (Nat.le_refl _) _))
    rw [hl] at this
    exact this
  have hbl : ([6, 0] ++ List.replicate k 0).length = 2 + k := by simp; omega
  have hb256 : ∀ x ∈ [6, 0] ++ List.replicate k 0, x < 256 := fun x hx => by
    rcases List.mem_append.1 hx with h | h
    · simp at h; omega
    · have := (List.mem_replicate.1 h).2; omega
  by_cases h : k + 21 ≤ 4096
  · rw [if_pos h]
    refine (enc_good 3 _ ([6, 0] ++ List.replicate k 0) w (MC.msg 3 6 0 _ _ _) rfl (by decide) (by omega) (by omega) (fun o => (K o).mono ?_)).mono ?_
    · rintro e w' ⟨v, rfl, ho, hb⟩
      obtain ⟨a, c, rfl, _, hrd⟩ := own_brd ho (by omega) hb256
      exact ⟨a, c, rfl, hrd, hb⟩
    · rintro e w' ⟨v, rfl, ho, hb⟩
      obtain ⟨a, c, rfl⟩ := own_shape ho
      refine ⟨a, _, c, rfl, ?_, hb⟩
      simp only [List.length_append, List.length_cons, List.length_nil, List.length_replicate, ff16]
      omega
  · rw [if_neg h]
    refine (enc_long _ (2 + k) w (MC.msg 3 6 0 _ _ _) (by omega) (by omega) (fun o => (K o).mono ?_)).mono ?_
    · rintro e w' ⟨v, rfl, ho, hb⟩
      rw [hbl] at ho
      obtain ⟨a, c, rfl⟩ := own_shape ho
      exact ⟨a, c, rfl, ((Below.refl w.heap.size w).alloc (Nat.le_refl _) _).trans (hb.mono (by simp))⟩
    · rintro e w' ⟨rfl, hb⟩
      exact ⟨none, 0, 0, rfl, rfl, hb⟩
section
attribute [local go_sem ↓] keptM_build
set_option maxHeartbeats 1600000 in
theorem msgLimits_walk (z : Int) (W : World) (hS : SaidM W) (hz : (Lit.int IntKind.u16 z).wf = true) : Calls Tryz.prog 7 #[.int .u16 z] W fun e W' => e = .returned (.bool true) ∧ Below W.heap.size W W' := by
  obtain ⟨m, rfl, hm⟩ : ∃ m : Nat, z = (m : Int) ∧ m < 65536 := by
    have hw := bounds_u16 hz
    obtain ⟨q, rfl⟩ := Int.eq_ofNat_of_zero_le hw.1
    exact ⟨q, rfl, by omega⟩
  obtain ⟨k, hk⟩ : ∃ k : Nat, k = 4000 + m % 200 := ⟨_, rfl⟩
  have hki : (4000 : Int) + (m : Int) % 200 = (k : Int) := by omega
  have hk1 : (k : Int) < 4200 := by omega
  have hk2 : (4000 : Int) ≤ (k : Int) := by omega
  have hmk := make_u8 k (by omega) W
  have hbA : Below W.heap.size W (W.alloc (.cells (bcells (List.replicate k 0)).toArray 5)) := (Below.refl _ _).alloc (Nat.le_refl _) _
  have KE := hide (enc_zeros (g := W.heap.size) k (W.alloc (.cells (bcells (List.replicate k 0)).toArray 5)) (by omega) (brd_zeros W k (by omega)))
  have KA : Hid (∀ X, Below W.heap.size W X → Calls Tryz.prog 8 #[] X fun e w' => e = .returned (.bool true) ∧ Below X.heap.size X w') := fun X hX => answers_any X (hS.below hX)
  have HBA := hide hbA
  clear hbA hS hz hk
  generalize (bcells (List.replicate k 0)).toArray = Z at *
  have hm0 : (0 : Int) ≤ (m : Int) := Int.natCast_nonneg _
  have hm1 : (m : Int) < 65536 := by omega
  go_enter Tryz.func7, Tryz.ntmps7
  go_wp2_with (refine keptM_build2_intro 0 3 _ _ (.int .i64 3) (.agg #[.int .i64 6, .int .i64 0, .slice (some ⟨W.heap.size, 0, none⟩) k k]) (.agg (msgC 3 6 0 (.slice (some ⟨W.heap.size, 0, none⟩) k k))) (by rfl) (by rfl) (run_buildnM 3 6 0 _ _ _ _) ?_)
  with_reducible refine KE.out.mono ?_
  rintro e w1 ⟨a, n, c, rfl, hn, hb⟩
  have HB1 : Hid (Below W.heap.size W w1) := HBA.out.trans (hb.mono HBA.out.size)
  clear hb
  by_cases h9 : k + 21 ≤ 4096
  · rw [if_pos h9] at hn
    obtain ⟨s, hs⟩ : ∃ s : Nat, (k : Int) + 21 = (s : Int) := ⟨k + 21, by omega⟩
    obtain rfl : n = s := by omega
    have d1 : decide ((n : Int) ≤ 4096) = true := decide_eq_true (by omega)
    have d2 : decide ((0 : Int) < (n : Int)) = true := decide_eq_true (by omega)
    have d3 : ((n : Int) == 0) = false := by simp; omega
    have d4 : (0 : Int) ≤ (n : Int) := Int.natCast_nonneg _
    have d5 : (n : Int) < 5000 := by omega
    have HN := hide hn
    have H9 := hide h9
    clear hn h9 hki hm0 hm1 hm hk1 hk2
    go_wp2_with fail
    with_reducible refine (KA.out _ HB1.out).mono ?_
    rintro e w2 ⟨rfl, hb⟩
    have HB2 := hide hb
    go_wp2
    go_ret
    exact ⟨rfl, HB1.out.trans (HB2.out.mono HB1.out.size)⟩
  · rw [if_neg h9] at hn
    subst hn
    have d1 : decide ((k : Int) + 21 ≤ 4096) = false := decide_eq_false (by omega)
    have H9 := hide h9
    clear h9
    go_wp2_with fail
    with_reducible refine (KA.out _ HB1.out).mono ?_
    rintro e w2 ⟨rfl, hb⟩
    have HB2 := hide hb
    go_wp2
    go_ret
    exact ⟨rfl, HB1.out.trans (HB2.out.mono HB1.out.size)⟩
end
end Go.Proofs.YtcbonpofbmogjaaGreatDoor
