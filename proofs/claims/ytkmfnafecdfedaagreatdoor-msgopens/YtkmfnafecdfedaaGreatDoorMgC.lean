/- The program's cut and readAS. -/
import Derived.Test.YtkmfnafecdfedaaGreatDoorMgH
namespace Go.Proofs.YtkmfnafecdfedaaGreatDoor
open Go.RowKit
set_option maxRecDepth 100000

/-- The part whose length stands ahead of it in k bytes, and the rest. -/
def cutP (k : Nat) (bs : List Nat) : Option (List Nat × List Nat) :=
  if bs.length < k then none else if bs.length < k + numB (bs.take k) then none else some ((bs.drop k).take (numB (bs.take k)), bs.drop (k + numB (bs.take k)))
/-- What cut answers. -/
def CutIs (w : World) (e : Ending) (r : Option (List Nat × List Nat)) : Prop := match r with
  | none => e = .returned (.tuple #[.slice none 0 0, .slice none 0 0, .bool false])
  | some (p, q) => ∃ ap cp aq cq, e = .returned (.tuple #[.slice ap p.length cp, .slice aq q.length cq, .bool true]) ∧ p.length ≤ cp ∧ q.length ≤ cq ∧ BRd w ap p ∧ BRd w aq q
theorem cutP_short {k : Nat} {bs : List Nat} (h : bs.length < k) : cutP k bs = none := by unfold cutP; rw [if_pos h]
theorem cutP_no {k : Nat} {bs : List Nat} (h : ¬ bs.length < k) (h2 : bs.length < k + numB (bs.take k)) : cutP k bs = none := by unfold cutP; rw [if_neg h, if_pos h2]
theorem cutP_yes {k : Nat} {bs : List Nat} (h : ¬ bs.length < k) (h2 : ¬ bs.length < k + numB (bs.take k)) : cutP k bs = some ((bs.drop k).take (numB (bs.take k)), bs.drop (k + numB (bs.take k))) := by unfold cutP; rw [if_neg h, if_neg h2]
theorem brd_drop {w : World} {g o k : Nat} {bs : List Nat} (h : BRd w (some ⟨g, o, none⟩) bs) (hk : k ≤ bs.length) : BRd w (some ⟨g, o + k, none⟩) (bs.drop k) := by
  have := brd_from h k (bs.length - k) (by omega)
  rwa [List.take_of_length_le (by rw [List.length_drop]; omega)] at this
theorem brd_sub {w : World} {a : Option Addr} {g o k l c : Nat} {bs : List Nat} (h : BRd w (some ⟨g, o, none⟩) bs) (hk : k + l ≤ bs.length) (hc : bs.length ≤ c) (ha : a = if c = k then some ⟨g, o, none⟩ else some ⟨g, o + k, none⟩) : BRd w a ((bs.drop k).take l) := by
  by_cases e : c = k
  · have : (bs.drop k).take l = [] := by
      rw [List.drop_eq_nil_of_le (by omega), List.take_nil]
    rw [this]
    exact brd_none _ _
  · rw [ha, if_neg e]
    exact brd_from h k l hk
set_option maxHeartbeats 1600000 in
theorem mcut_any (a : Option Addr) (c k : Nat) (bs : List Nat) (w : World) (hk1 : 1 ≤ k) (hk2 : k ≤ 2) (hl : bs.length ≤ 100000) (hcap : bs.length ≤ c) (h : BRd w a bs) :
    Calls Tryz.prog 39 #[.slice a bs.length c, .int .i64 (k : Int)] w fun e w' => CutIs w e (cutP k bs) ∧ ∃ m, w' = w.drewN m := by
  by_cases h1 : bs.length < k
  · rw [cutP_short h1]
    unfold CutIs
    have h1i : (bs.length : Int) < (k : Int) := by omega
    clear h hcap hl
    generalize bs.length = n at *
    go_enter Tryz.func39, Tryz.ntmps39
    go_wp2_with fail
    exact bodyPost_ret (v := .tuple #[.slice none 0 0, .slice none 0 0, .bool false]) (by simp [results, Tryz.results39, go_sem]) rfl ⟨rfl, 0, rfl⟩
  · obtain ⟨g, o, rfl, hc⟩ := h.1.2 (by omega)
    have htl : (bs.take k).length = k := by rw [List.length_take]; omega
    have h3 := brd_take h k
    have hN := mnumof_any g o k c (bs.take k) w htl (by omega) h3.2 (fun i hi => by
      obtain ⟨g', o', e, h9⟩ := h3.1.2 (by omega)
      cases e
      exact h9 i (by omega))
    have hm : numB (bs.take k) < 65536 := by
      have h9 := numB_lt (bs.take k) h3.2
      rw [htl] at h9
      rcases (by omega : k = 1 ∨ k = 2) with rfl | rfl <;> simp at h9 <;> omega
    have h1i : ¬ ((bs.length : Int) < (k : Int)) := by omega
    have hki : (k : Int) ≤ (c : Int) := by omega
    have hk0 : (0 : Int) ≤ (k : Int) := Int.natCast_nonneg _
    have HN := hide hN
    by_cases h2 : bs.length < k + numB (bs.take k)
    · rw [cutP_no h1 h2]
      unfold CutIs
      generalize numB (bs.take k) = m at *
      have h2i : (bs.length : Int) < (k : Int) + (m : Int) := by omega
      clear h hcap hl h3 htl hc hN
      generalize bs.length = n at *
      go_enter Tryz.func39, Tryz.ntmps39
      go_wp2_with fail
      with_reducible refine HN.out.mono ?_
      rintro e w1 ⟨rfl, rfl⟩
      go_wp2_with fail
      exact bodyPost_ret (v := .tuple #[.slice none 0 0, .slice none 0 0, .bool false]) (by simp [results, Tryz.results39, go_sem]) rfl ⟨rfl, 0, rfl⟩
    · rw [cutP_yes h1 h2]
      unfold CutIs
      generalize numB (bs.take k) = m at *
      have hp : ((bs.drop k).take m).length = m := by rw [List.length_take, List.length_drop]; omega
      have hq : (bs.drop (k + m)).length = bs.length - (k + m) := List.length_drop
      simp only [hp, hq]
      have h2i : ¬ ((bs.length : Int) < (k : Int) + (m : Int)) := by omega
      have HP : Hid (∀ a, a = (if c = k then some ⟨g, o, none⟩ else some ⟨g, o + k, none⟩) → BRd w a ((bs.drop k).take m)) := fun a ha => brd_sub h (by omega) hcap ha
      have HQ : Hid (∀ a, a = (if c = k + m then some ⟨g, o, none⟩ else some ⟨g, o + (k + m), none⟩) → BRd w a (bs.drop (k + m))) := fun a ha => by
        have := brd_sub (l := bs.length - (k + m)) h (by omega) hcap ha
        rwa [List.take_of_length_le (by rw [List.length_drop]; omega)] at this
      have hcm : (k : Int) + (m : Int) ≤ (c : Int) := by omega
      have HC := hide hcap
      obtain ⟨e, he⟩ : ∃ e : Nat, (k : Int) + (m : Int) = (e : Int) := ⟨k + m, by omega⟩
      have hee : e = k + m := by omega
      have HEE := hide hee
      have hke : k ≤ e := by omega
      have hen : e ≤ bs.length := by omega
      have hec : e ≤ c := by omega
      have hkei : (k : Int) ≤ (e : Int) := by omega
      have heni : (e : Int) ≤ (bs.length : Int) := by omega
      have heci : (e : Int) ≤ (c : Int) := by omega
      clear h h3 htl hc hN hp hq hee hcap h1 h2
      generalize bs.length = n at *
      have hem : e - k = m := by have := HEE.out; omega
      by_cases hck : c = k
      · subst hck
        obtain rfl : e = c := by omega
        obtain rfl : m = 0 := by omega
        go_enter Tryz.func39, Tryz.ntmps39
        go_wp2_with fail
        with_reducible refine HN.out.mono ?_
        rintro e9 w1 ⟨rfl, rfl⟩
        go_wp2_with fail
        go_quiet (fail)
        go_wp2_with fail
        refine bodyPost_ret (v := .tuple #[.slice (some ⟨g, o, none⟩) 0 0, .slice (some ⟨g, o, none⟩) (n - e) 0, .bool true]) (by simp [results, Tryz.results39, go_sem]) rfl ⟨⟨some ⟨g, o, none⟩, 0, some ⟨g, o, none⟩, 0, by rw [Nat.add_zero], by omega, by have := HC.out; omega, HP.out _ (by simp), HQ.out _ (by simp)⟩, _, rfl⟩
      · by_cases hce : c = e
        · subst hce
          go_enter Tryz.func39, Tryz.ntmps39
          go_wp2_with fail
          with_reducible refine HN.out.mono ?_
          rintro e9 w1 ⟨rfl, rfl⟩
          go_wp2_with fail
          go_quiet (fail)
          go_wp2_with fail
          refine bodyPost_ret (v := .tuple #[.slice (some ⟨g, o + k, none⟩) m (c - k), .slice (some ⟨g, o, none⟩) (n - c) 0, .bool true]) (by simp [results, Tryz.results39, go_sem, hem]) rfl ⟨⟨some ⟨g, o + k, none⟩, c - k, some ⟨g, o, none⟩, 0, by rw [HEE.out], by have := HC.out; have := HEE.out; omega, by have := HC.out; have := HEE.out; omega, HP.out _ (by rw [if_neg hck]), HQ.out _ (by rw [← HEE.out, if_pos rfl])⟩, _, rfl⟩
        · go_enter Tryz.func39, Tryz.ntmps39
          go_wp2_with fail
          with_reducible refine HN.out.mono ?_
          rintro e9 w1 ⟨rfl, rfl⟩
          go_wp2_with fail
          go_quiet (fail)
          go_wp2_with fail
          refine bodyPost_ret (v := .tuple #[.slice (some ⟨g, o + k, none⟩) m (c - k), .slice (some ⟨g, o + e, none⟩) (n - e) (c - e), .bool true]) (by simp [results, Tryz.results39, go_sem]) rfl ⟨⟨some ⟨g, o + k, none⟩, c - k, some ⟨g, o + e, none⟩, c - e, by rw [HEE.out], by have := HC.out; have := HEE.out; omega, by have := HC.out; have := HEE.out; omega, HP.out _ (by rw [if_neg hck]), HQ.out _ (by rw [← HEE.out, if_neg hce])⟩, _, rfl⟩
end Go.Proofs.YtkmfnafecdfedaaGreatDoor
