/- The program's number, noteOf. -/
import Derived.Test.YtflhohfeahcnfaaGreatDoorMgA
namespace Go.Proofs.YtflhohfeahcnfaaGreatDoor
open Go.RowKit
set_option maxRecDepth 100000

theorem make_u8 (n : Nat) (hn : n ≤ 100000) (w : World) : (Instr.makeSlice 22 (.int .i64 (n : Int)) (.int .i64 (n : Int))).run Tryz.prog w =
    .ok (.slice (some ⟨w.heap.size, 0, none⟩) n n) (w.alloc (.cells (bcells (List.replicate n 0)).toArray 5)) := by
  obtain ⟨i0, hi0, hz0, hz1, hz2⟩ := info_parts Tryz.infoU8
  have := run_make (P := Tryz.prog) w 22 5 i0 _ Tryz.underlying22 hi0 hz0 .i64 .i64 (n : Int) (n : Int) (by omega) (Int.le_refl _) (by rw [hz2]; omega) (by omega)
  simp only [Int.toNat_natCast, hz1, Value.cells, Nat.mul_one] at this
  rw [this]
  congr 3
  apply Array.ext_getElem?
  intro k
  by_cases hk : k < n
  · simp [madeCells, bcells, hk, Nat.mod_one]
  · simp [madeCells, bcells, hk]
theorem make_two (w : World) : (Instr.makeSlice 22 (.int .i64 2) (.int .i64 2)).run Tryz.prog w = .ok (.slice (some ⟨w.heap.size, 0, none⟩) 2 2) (w.alloc (.cells #[.int .u8 0, .int .u8 0] 5)) := make_u8 2 (by omega) w
theorem make_one (w : World) : (Instr.makeSlice 22 (.int .i64 1) (.int .i64 1)).run Tryz.prog w = .ok (.slice (some ⟨w.heap.size, 0, none⟩) 1 1) (w.alloc (.cells #[.int .u8 0] 5)) := make_u8 1 (by omega) w
set_option maxHeartbeats 800000 in
theorem number_two (n : Nat) (w : World) (hn : n < 65536) : Calls Tryz.prog 40 #[.int .i64 (n : Int), .int .i64 2] w fun e w' =>
    e = .returned (.slice (some ⟨w.heap.size, 0, none⟩) 2 2) ∧ w' = w.alloc (.cells #[.int .u8 ((n : Int) / 256), .int .u8 ((n : Int) % 256)] 5) := by
  have hmk := make_two w
  go_enter Tryz.func40, Tryz.ntmps40
  go_wp2
  go_loopw [11] (fun i wq => (i = .int .i64 0 ∧ wq = w.alloc (.cells #[.int .u8 0, .int .u8 0] 5)) ∨ (i = .int .i64 1 ∧ wq = w.alloc (.cells #[.int .u8 ((n : Int) / 256), .int .u8 0] 5)) ∨ (i = .int .i64 2 ∧ wq = w.alloc (.cells #[.int .u8 ((n : Int) / 256), .int .u8 ((n : Int) % 256)] 5))) (fun i _ => 2 - (intOf i).toNat)
  case atStart => exact .inl ⟨rfl, rfl⟩
  case round =>
    rcases hrel with ⟨rfl, rfl⟩ | ⟨rfl, rfl⟩ | ⟨rfl, rfl⟩
    · go_wp2
      exact ⟨.inr (.inl ⟨rfl, trivial⟩), by simp [intOf]⟩
    · go_wp2
      exact ⟨.inr (.inr ⟨rfl, trivial⟩), by simp [intOf]⟩
    · go_wp2
      go_ret
      exact ⟨rfl, rfl⟩
set_option maxHeartbeats 800000 in
theorem number_one (n : Nat) (w : World) (hn : n < 256) : Calls Tryz.prog 40 #[.int .i64 (n : Int), .int .i64 1] w fun e w' =>
    e = .returned (.slice (some ⟨w.heap.size, 0, none⟩) 1 1) ∧ w' = w.alloc (.cells #[.int .u8 (n : Int)] 5) := by
  have hmk := make_one w
  go_enter Tryz.func40, Tryz.ntmps40
  go_wp2
  go_loopw [11] (fun i wq => (i = .int .i64 0 ∧ wq = w.alloc (.cells #[.int .u8 0] 5)) ∨ (i = .int .i64 1 ∧ wq = w.alloc (.cells #[.int .u8 (n : Int)] 5))) (fun i _ => 1 - (intOf i).toNat)
  case atStart => exact .inl ⟨rfl, rfl⟩
  case round =>
    rcases hrel with ⟨rfl, rfl⟩ | ⟨rfl, rfl⟩
    · go_wp2
      exact ⟨.inr ⟨rfl, trivial⟩, by simp [intOf]⟩
    · go_wp2
      go_ret
      exact ⟨rfl, rfl⟩
/-- A Note's value. -/
def noteV (c s : Nat) (v : Value) : Value := .agg #[.int .i64 (c : Int), .int .i64 (s : Int), v]
/-- A Note whose Data is memory from B on. -/
def NoteIs (B : Nat) (w : World) (u : Value) (c s : Nat) (d : List Nat) : Prop := ∃ a cap, u = .agg #[.int .i64 (c : Int), .int .i64 (s : Int), .slice a d.length cap] ∧ w.ownsRow B 5 1 (.slice a d.length cap) d.length (bcells d)
set_option maxHeartbeats 1600000 in
theorem noteof_any (c s : Nat) (a : Option Addr) (cap : Nat) (d : List Nat) (w : World) (hl : d.length ≤ 50000) (h : BRd w a d) :
    Calls Tryz.prog 24 #[.int .i64 (c : Int), .int .i64 (s : Int), .slice a d.length cap] w fun e w' => ∃ u, e = .returned u ∧ NoteIs w.heap.size w' u c s d ∧ Below w.heap.size w w' := by
  have hb1 : Below w.heap.size w ((w.alloc (.cells #[.int .i64 0, .int .i64 0, .slice none 0 0] 38)).alloc (.cells #[.slice a d.length cap] 22)) := ((Below.refl _ _).alloc (Nat.le_refl _) _).alloc (by simp) _
  have hfl : flatB [(a, cap, d)] = d := by simp [flatB]
  have K := obo_any (w.heap.size + 1) 0 1 [(a, cap, d)] ((w.alloc (.cells #[.int .i64 0, .int .i64 0, .slice none 0 0] 38)).alloc (.cells #[.slice a d.length cap] 22)) (by simp) (fun i x hx => by
    match i with
    | 0 =>
      simp at hx
      subst hx
      simp [go_sem]
    | i + 1 => simp at hx) (fun x hx => by simp at hx; subst hx; exact h.below hb1) (by rw [hfl]; omega)
  rw [hfl] at K
  have K2 : Hid (Calls Tryz.prog 39 #[.slice (some ⟨w.heap.size + 1, 0, none⟩) 1 1] ((w.alloc (.cells #[.int .i64 0, .int .i64 0, .slice none 0 0] 38)).alloc (.cells #[.slice a d.length cap] 22)) fun e w3 => ∃ a9 c9, e = .returned (.slice a9 d.length c9) ∧ Hid (w3.ownsRow (w.heap.size + 1) 5 1 (.slice a9 d.length c9) d.length (bcells d)) ∧ Hid (Below w.heap.size w w3) ∧ w.heap.size < w3.heap.size ∧
      w3.cell? ⟨w.heap.size, 0, none⟩ = some (.int .i64 0) ∧ w3.cell? ⟨w.heap.size, 1, none⟩ = some (.int .i64 0) ∧ w3.cell? ⟨w.heap.size, 2, none⟩ = some (.slice none 0 0) ∧ w3.frozen? ⟨w.heap.size, 0, none⟩ = false ∧ w3.frozen? ⟨w.heap.size, 1, none⟩ = false ∧ w3.frozen? ⟨w.heap.size, 2, none⟩ = false) := by
    refine K.mono ?_
    rintro e w3 ⟨v, rfl, ho, hb3⟩
    obtain ⟨a9, c9, rfl⟩ := own_shape ho
    simp only [World.size_alloc] at ho hb3
    have hc : ∀ j, w3.cell? ⟨w.heap.size, j, none⟩ = _ := fun j => hb3.cell (p := ⟨w.heap.size, j, none⟩) (by show w.heap.size < w.heap.size + 1 + 1; omega)
    have hf : ∀ j, w3.frozen? ⟨w.heap.size, j, none⟩ = _ := fun j => hb3.frozen (p := ⟨w.heap.size, j, none⟩) (by show w.heap.size < w.heap.size + 1 + 1; omega)
    refine ⟨a9, c9, rfl, own_low ho (by omega), hb1.trans (hb3.mono (by omega)), by have := hb3.size; simp at this; omega, ?_, ?_, ?_, ?_, ?_, ?_⟩
    · rw [hc]; simp [go_sem]
    · rw [hc]; simp [go_sem]
    · rw [hc]; simp [go_sem]
    · rw [hf]; simp [go_sem]
    · rw [hf]; simp [go_sem]
    · rw [hf]; simp [go_sem]
  clear K hb1 hfl h
  unfold NoteIs
  generalize d.length = n at *
  go_enter Tryz.func24, Tryz.ntmps24
  go_wp2_with fail
  refine K2.out.mono ?_
  rintro e w3 ⟨a9, c9, rfl, HO, HB, hz3, r0, r1, r2, f0, f1, f2⟩
  go_wp2_with fail
  refine bodyPost_ret (v := .agg #[.int .i64 c, .int .i64 s, .slice a9 n c9]) (by simp [results, Tryz.results24, go_sem, r0, r1, r2]) rfl ⟨_, rfl, ⟨a9, c9, rfl, ?_⟩, ?_⟩
  · exact own_low (own_under (own_under (own_under HO.out (by omega) _ _) (by omega) _ _) (by omega) _ _) (by omega)
  · exact ((HB.out.setCell (Nat.le_refl _) _).setCell (Nat.le_refl _) _).setCell (Nat.le_refl _) _
/-- A Note's box that was made just now. -/
def NtBox (w : World) (X : Nat) : Prop := X < w.heap.size ∧ w.cell? ⟨X, 0, none⟩ = some (.int .i64 0) ∧ w.cell? ⟨X, 1, none⟩ = some (.int .i64 0) ∧ w.cell? ⟨X, 2, none⟩ = some (.slice none 0 0) ∧ w.frozen? ⟨X, 0, none⟩ = false ∧ w.frozen? ⟨X, 1, none⟩ = false ∧ w.frozen? ⟨X, 2, none⟩ = false
theorem NtBox.below {w w' : World} {X B : Nat} (h : NtBox w X) (hb : Below B w w') (hX : X < B) : NtBox w' X := by
  obtain ⟨h0, h1, h2, h3, h4, h5, h6⟩ := h
  have hc : ∀ j, w'.cell? ⟨X, j, none⟩ = w.cell? ⟨X, j, none⟩ := fun j => hb.cell (p := ⟨X, j, none⟩) hX
  have hf : ∀ j, w'.frozen? ⟨X, j, none⟩ = w.frozen? ⟨X, j, none⟩ := fun j => hb.frozen (p := ⟨X, j, none⟩) hX
  exact ⟨Nat.lt_of_lt_of_le h0 hb.size, by rw [hc]; exact h1, by rw [hc]; exact h2, by rw [hc]; exact h3, by rw [hf]; exact h4, by rw [hf]; exact h5, by rw [hf]; exact h6⟩
theorem NtBox.made (w : World) : NtBox (w.alloc (.cells #[.int .i64 0, .int .i64 0, .slice none 0 0] 38)) w.heap.size := by
  refine ⟨by simp, ?_, ?_, ?_, ?_, ?_, ?_⟩ <;> simp [go_sem]
/-- noteOf, beside an answer's box. -/
theorem noteof_box (c s : Nat) (a : Option Addr) (cap n : Nat) (d : List Nat) (W : World) (X : Nat) (hn : d.length = n) (hl : n ≤ 50000) (h : BRd W a d) (hX : NtBox W X) :
    Calls Tryz.prog 24 #[.int .i64 (c : Int), .int .i64 (s : Int), .slice a n cap] W fun e w' => ∃ a9 c9, e = .returned (.agg #[.int .i64 (c : Int), .int .i64 (s : Int), .slice a9 n c9]) ∧ Hid (w'.ownsRow W.heap.size 5 1 (.slice a9 n c9) n (bcells d)) ∧ Hid (Below W.heap.size W w') ∧ Hid (NtBox w' X) := by
  subst hn
  refine (noteof_any c s a cap d W hl h).mono ?_
  rintro e w' ⟨u, rfl, ⟨a9, c9, rfl, ho⟩, hb⟩
  exact ⟨a9, c9, rfl, ho, hb, hX.below hb hX.1⟩
end Go.Proofs.YtflhohfeahcnfaaGreatDoor
