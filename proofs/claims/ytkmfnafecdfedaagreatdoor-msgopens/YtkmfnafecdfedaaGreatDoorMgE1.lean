/- The program's bodyOf of a KEEPALIVE and of a NOTIFICATION. -/
import Derived.Test.YtkmfnafecdfedaaGreatDoorHMa
import Derived.Deep.QuietTactic
import Derived.BigQuiet
namespace Go.Proofs.YtkmfnafecdfedaaGreatDoor
open Go.RowKit
set_option maxRecDepth 100000

/-- A message that has but a kind, and a Note. -/
def msgC (k c s : Int) (v : Value) : Array Value := #[.int .i64 k, .int .i64 0, .int .i64 0, .int .u32 0, .bool false, .int .i64 0, .bool false, .bool false, .int .i64 0, .bool false, .bool false, .bool false, .int .i64 0, .slice none 0 0, .int .i64 0, .slice none 0 0, .int .u32 0, .int .i64 0, .int .i64 0, .slice none 0 0, .slice none 0 0, .slice none 0 0, .int .i64 c, .int .i64 s, v]
set_option maxHeartbeats 800000 in
theorem fromto_any (n l m : Int) (w : World) : Calls Tryz.prog 85 #[.int .i64 n, .int .i64 l, .int .i64 m] w fun e w' => e = .returned (.bool (decide (l ≤ n ∧ n ≤ m))) ∧ w' = w := by
  by_cases h1 : l ≤ n
  · by_cases h2 : n ≤ m
    · have HD : Hid (decide (l ≤ n ∧ n ≤ m) = true) := decide_eq_true ⟨h1, h2⟩
      rw [HD.out]
      go_enter Tryz.func85, Tryz.ntmps85
      go_wp2
      go_ret
      exact ⟨rfl, rfl⟩
    · have HD : Hid (decide (l ≤ n ∧ n ≤ m) = false) := decide_eq_false (fun h => h2 h.2)
      rw [HD.out]
      go_enter Tryz.func85, Tryz.ntmps85
      go_wp2
      go_ret
      exact ⟨rfl, rfl⟩
  · have HD : Hid (decide (l ≤ n ∧ n ≤ m) = false) := decide_eq_false (fun h => h1 h.1)
    rw [HD.out]
    go_enter Tryz.func85, Tryz.ntmps85
    go_wp2
    go_ret
    exact ⟨rfl, rfl⟩
set_option maxHeartbeats 1600000 in
theorem nbody_any (c s : Nat) (a : Option Addr) (cap : Nat) (d : List Nat) (w : World) (hc : c < 256) (hs : s < 256) (hl : d.length ≤ 50000) (h : BRd w a d) :
    Calls Tryz.prog 60 #[.agg #[.int .i64 (c : Int), .int .i64 (s : Int), .slice a d.length cap]] w fun e w' => ∃ v, e = .returned (.tuple #[v, .bool true]) ∧ w'.ownsRow w.heap.size 5 1 v ([c, s] ++ d).length (bcells ([c, s] ++ d)) ∧ Below w.heap.size w w' := by
  have hba : ∀ A B C, Below w.heap.size w (((w.alloc A).alloc B).alloc C) := fun A B C => (((Below.refl _ _).alloc (Nat.le_refl _) _).alloc (by simp) _).alloc (by simp; omega) _
  have hfl : flatB [((some ⟨w.heap.size + 1, 0, none⟩ : Option Addr), 2, [c, s]), (a, cap, d)] = [c, s] ++ d := by simp [flatB]
  have K := obo_any (w.heap.size + 1 + 1) 0 2 [(some ⟨w.heap.size + 1, 0, none⟩, 2, [c, s]), (a, cap, d)] (((w.alloc (.cells #[.int .i64 (c : Int), .int .i64 (s : Int), .slice a d.length cap] 38)).alloc (.cells #[.int .u8 (c : Int), .int .u8 (s : Int)] 5)).alloc (.cells #[.slice (some ⟨w.heap.size + 1, 0, none⟩) 2 2, .slice a d.length cap] 22)) (by simp) (fun i x hx => by
    match i with
    | 0 => simp at hx; subst hx; simp [go_sem]
    | 1 => simp at hx; subst hx; simp [go_sem]
    | i + 2 => simp at hx) (fun x hx => by
      simp at hx
      rcases hx with rfl | rfl
      · refine ⟨⟨by simp [maxLen], fun _ => ⟨_, 0, rfl, fun i hi => ?_⟩⟩, by simp; omega⟩
        match i, hi with
        | 0, _ => simp [go_sem]
        | 1, _ => simp [go_sem]
      · exact h.below (hba _ _ _)) (by rw [hfl]; simp; omega)
  rw [hfl] at K
  have K2 : Hid (Calls Tryz.prog 36 #[.slice (some ⟨w.heap.size + 1 + 1, 0, none⟩) 2 2] (((w.alloc (.cells #[.int .i64 (c : Int), .int .i64 (s : Int), .slice a d.length cap] 38)).alloc (.cells #[.int .u8 (c : Int), .int .u8 (s : Int)] 5)).alloc (.cells #[.slice (some ⟨w.heap.size + 1, 0, none⟩) 2 2, .slice a d.length cap] 22)) fun e w' => ∃ v, e = .returned v ∧ Hid (w'.ownsRow w.heap.size 5 1 v ([c, s] ++ d).length (bcells ([c, s] ++ d))) ∧ Hid (Below w.heap.size w w')) := by
    refine K.mono ?_
    rintro e w' ⟨v, rfl, ho, hb⟩
    exact ⟨v, rfl, own_low ho (by simp; omega), (hba _ _ _).trans (hb.mono (by simp; omega))⟩
  have hc0 : (0 : Int) ≤ (c : Int) := Int.natCast_nonneg _
  have hs0 : (0 : Int) ≤ (s : Int) := Int.natCast_nonneg _
  have hc1 : (c : Int) ≤ 255 := by omega
  have hs1 : (s : Int) ≤ 255 := by omega
  have hd1 : decide ((0 : Int) ≤ (c : Int) ∧ (c : Int) ≤ 255) = true := decide_eq_true ⟨hc0, hc1⟩
  have hd2 : decide ((0 : Int) ≤ (s : Int) ∧ (s : Int) ≤ 255) = true := decide_eq_true ⟨hs0, hs1⟩
  have F1 := fun W => fromto_any (c : Int) 0 255 W
  have F2 := fun W => fromto_any (s : Int) 0 255 W
  rw [hd1] at F1
  rw [hd2] at F2
  have HF1 := hide F1
  have HF2 := hide F2
  clear K hba hfl h hd1 hd2 F1 F2
  generalize d.length = n at *
  go_enter Tryz.func60, Tryz.ntmps60
  go_wp2_with fail
  refine (HF1.out _).mono ?_
  rintro e w1 ⟨rfl, rfl⟩
  go_wp2_with fail
  refine (HF2.out _).mono ?_
  rintro e w1 ⟨rfl, rfl⟩
  go_wp2_with fail
  with_reducible refine K2.out.mono ?_
  rintro e w1 ⟨v, rfl, HO, HB⟩
  go_wp2
  go_ret2
  exact ⟨v, rfl, HO.out, HB.out⟩
set_option maxHeartbeats 1600000 in
theorem bodyof_alive (w : World) : Calls Tryz.prog 35 #[.agg (msgC 4 0 0 (.slice none 0 0))] w fun e w' => e = .returned (.tuple #[.slice none 0 0, .bool true]) ∧ Below w.heap.size w w' := by
  unfold msgC
  go_enter Tryz.func35, Tryz.ntmps35
  go_wp2_with fail
  go_quiet (fail)
  go_wp2
  go_ret2
  exact ⟨rfl, below_drewN ((Below.refl _ _).alloc (Nat.le_refl _) _) _⟩
set_option maxHeartbeats 1600000 in
theorem bodyof_note (c s : Nat) (a : Option Addr) (cap : Nat) (d : List Nat) (w : World) (hc : c < 256) (hs : s < 256) (hl : d.length ≤ 50000) (h : BRd w a d) :
    Calls Tryz.prog 35 #[.agg (msgC 3 (c : Int) (s : Int) (.slice a d.length cap))] w fun e w' => ∃ v, e = .returned (.tuple #[v, .bool true]) ∧ w'.ownsRow w.heap.size 5 1 v ([c, s] ++ d).length (bcells ([c, s] ++ d)) ∧ Below w.heap.size w w' := by
  have K : Hid (∀ o, Calls Tryz.prog 60 #[.agg #[.int .i64 (c : Int), .int .i64 (s : Int), .slice a d.length cap]] (w.alloc o) fun e w' => ∃ v, e = .returned (.tuple #[v, .bool true]) ∧ Hid (w'.ownsRow w.heap.size 5 1 v ([c, s] ++ d).length (bcells ([c, s] ++ d))) ∧ Hid (Below w.heap.size w w')) := fun o => by
    have hb : Below w.heap.size w (w.alloc o) := (Below.refl _ _).alloc (Nat.le_refl _) _
    refine (nbody_any c s a cap d (w.alloc o) hc hs hl (h.below hb)).mono ?_
    rintro e w' ⟨v, rfl, ho, h2⟩
    exact ⟨v, rfl, own_low ho (by simp), hb.trans (h2.mono (by simp))⟩
  clear h
  unfold msgC
  generalize d.length = n at *
  go_enter Tryz.func35, Tryz.ntmps35
  go_wp2_with fail
  refine (K.out _).mono ?_
  rintro e w1 ⟨v, rfl, HO, HB⟩
  go_wp2
  go_ret2
  exact ⟨v, rfl, HO.out, HB.out⟩
end Go.Proofs.YtkmfnafecdfedaaGreatDoor
