/- The program's numberOf, number, oneBehindOther, noteOf. -/
import Derived.Test.YtkmfnafecdfedaaGreatDoorMgP
namespace Go.Proofs.YtkmfnafecdfedaaGreatDoor
open Go.RowKit
set_option maxRecDepth 100000

set_option maxHeartbeats 800000 in
theorem mnumof_any (b o n cap : Nat) (bs : List Nat) (w : World) (hn : bs.length = n) (h4 : n ≤ 4) (hlt : ∀ x ∈ bs, x < 256) (hc : ∀ i, i < n → w.cell? ⟨b, o + i, none⟩ = some (.int .u8 (bs.getD i 0 : Int))) :
    Calls Tryz.prog 38 #[.slice (some ⟨b, o, none⟩) n cap] w fun e w' => e = .returned (.int .i64 (numB bs : Int)) ∧ w' = w := by
  have HC := hide hc
  have HL := hide hlt
  have HN := hide hn
  clear hc hlt hn
  go_enter Tryz.func38, Tryz.ntmps38
  go_wp2
  go_loop [3, 8] (fun u i => ∃ k N : Nat, k ≤ n ∧ i = .int .i64 k ∧ u = .int .i64 (N : Int) ∧ Hid (N = numB (bs.take k))) (fun _ i => n - (intOf i).toNat)
  case atStart => exact ⟨0, 0, Nat.zero_le _, rfl, rfl, rfl⟩
  case round =>
    obtain ⟨k, N, hk, rfl, rfl, HNK⟩ := hrel
    by_cases hlt : k < n
    · have hkl : k < bs.length := by rw [HN.out]; exact hlt
      have ck := HC.out k hlt
      have zk := World.block_lt_of_cell? w _ ck
      simp only at zk
      have hx : bs.getD k 0 < 256 := getD_lt256 HL.out k
      have hN : N < 16777216 := by
        have h9 := numB_lt (bs.take k) (take_lt HL.out k)
        rw [← HNK.out, List.length_take, Nat.min_eq_left (by omega)] at h9
        have h8 : (256 : Nat) ^ k ≤ 256 ^ 3 := Nat.pow_le_pow_right (by omega) (by omega)
        simp only [Nat.reducePow] at h8
        omega
      have HNN : Hid (N * 256 + bs.getD k 0 = numB (bs.take (k + 1))) := by
        show _ = _
        rw [List.take_succ_eq_append_getElem hkl, numB_snoc, ← HNK.out, List.getD_eq_getElem?_getD, List.getElem?_eq_getElem hkl]; rfl
      have hor := shl_or N (bs.getD k 0) hN hx
      generalize bs.getD k 0 = x at *
      clear HNK
      have hk0 : (0 : Int) ≤ (k : Int) := Int.natCast_nonneg _
      have hk1 : (k : Int) < (n : Int) := by omega
      go_wp2
      exact ⟨⟨k + 1, N * 256 + x, by omega, by go_num, rfl, HNN⟩, by simp [intOf]; omega⟩
    · have hke : bs.take k = bs := List.take_of_length_le (by rw [HN.out]; omega)
      go_wp2
      go_ret
      exact ⟨ret_int (by rw [HNK.out, hke]), rfl⟩
/-- A number's last bytes, the highest first. -/
def numBytes (n s : Nat) : List Nat := (List.range s).map fun i => n / 256 ^ (s - 1 - i) % 256
theorem numBytes_length (n s : Nat) : (numBytes n s).length = s := by simp [numBytes]
theorem numBytes_lt (n s : Nat) : ∀ x ∈ numBytes n s, x < 256 := by
  intro x hx
  obtain ⟨i, _, rfl⟩ := List.mem_map.1 hx
  omega
/-- The bytes of all parts, in their order. -/
def flatB (ps : List (Option Addr × Nat × List Nat)) : List Nat := (ps.map fun x => x.2.2).flatten
theorem flatB_snoc {ps : List (Option Addr × Nat × List Nat)} {k : Nat} {x : Option Addr × Nat × List Nat} (h : ps[k]? = some x) : flatB (ps.take (k + 1)) = flatB (ps.take k) ++ x.2.2 := by
  rw [List.take_add_one, h]; simp [flatB]
theorem flatB_le (ps : List (Option Addr × Nat × List Nat)) (k : Nat) : (flatB (ps.take k)).length ≤ (flatB ps).length := by
  have h : flatB ps = flatB (ps.take k) ++ flatB (ps.drop k) := by
    unfold flatB
    rw [← List.flatten_append, ← List.map_append, List.take_append_drop]
  rw [h, List.length_append]
  omega
theorem flatB_lt {w : World} {ps : List (Option Addr × Nat × List Nat)} (h : ∀ x ∈ ps, BRd w x.1 x.2.2) : ∀ y ∈ flatB ps, y < 256 := by
  intro y hy
  simp only [flatB, List.mem_flatten, List.mem_map] at hy
  obtain ⟨l, ⟨x, hx, rfl⟩, hl⟩ := hy
  exact (h x hx).2 y hl
section
attribute [local go_sem ↓] kept_append
set_option maxHeartbeats 1600000 in
theorem obo_any (g o c : Nat) (ps : List (Option Addr × Nat × List Nat)) (w : World) (hps : ps.length ≤ 1000) (hc : ∀ i x, ps[i]? = some x → w.cell? ⟨g, o + i, none⟩ = some (.slice x.1 x.2.2.length x.2.1)) (hb : ∀ x ∈ ps, BRd w x.1 x.2.2) (hl : (flatB ps).length ≤ 100000) :
    Calls Tryz.prog 36 #[.slice (some ⟨g, o, none⟩) ps.length c] w fun e w' => ∃ v, e = .returned v ∧ w'.ownsRow w.heap.size 5 1 v (flatB ps).length (bcells (flatB ps)) ∧ Below w.heap.size w w' := by
  have HC := hide hc
  have HB := hide hb
  have HL := hide hl
  clear hc hb hl
  obtain ⟨n, hn⟩ : ∃ n, n = ps.length := ⟨_, rfl⟩
  have HN := hide hn
  rw [← hn] at hps ⊢
  clear hn
  go_enter Tryz.func36, Tryz.ntmps36
  go_wp2
  go_loopw [3, 8] (fun v i wq => ∃ k : Nat, k ≤ n ∧ i = .int .i64 k ∧ Hid (wq.ownsRow w.heap.size 5 1 v (flatB (ps.take k)).length (bcells (flatB (ps.take k)))) ∧ Hid (Below w.heap.size w wq)) (fun _ i _ => n - (intOf i).toNat)
  case atStart => exact ⟨0, Nat.zero_le _, rfl, own_nil _ _ _ _, Below.refl _ _⟩
  case round =>
    obtain ⟨k, hk, rfl, HO, HW⟩ := hrel
    by_cases hlt : k < n
    · have hkl : k < ps.length := by rw [← HN.out]; exact hlt
      have hx := List.getElem?_eq_getElem hkl
      generalize ps[k] = x at hx
      have ck0 := HC.out k x hx
      have zk0 := World.block_lt_of_cell? w _ ck0
      have ck : wr.cell? ⟨g, o + k, none⟩ = some (.slice x.1 x.2.2.length x.2.1) := by rw [HW.out.cell (p := ⟨g, o + k, none⟩) zk0]; exact ck0
      have zk := World.block_lt_of_cell? wr _ ck
      simp only at zk
      have hsum := flatB_le ps (k + 1)
      rw [flatB_snoc hx, List.length_append] at hsum
      obtain ⟨v', w', hr, ho, hb2⟩ := app_any x.2.2 x.1 x.2.1 HO.out HW.out.size (by have := HL.out; omega) ((HB.out x (List.mem_of_getElem? hx)).below HW.out)
      rw [← flatB_snoc hx] at ho
      have HR := hide hr
      have HO2 := hide ho
      have HB2 := hide (HW.out.trans hb2)
      clear hr ho hb2 hsum ck0 zk0 HO hx hkl
      obtain ⟨xa, xc, xb⟩ := x
      simp only at *
      generalize xb.length = m at *
      have hk0 : (0 : Int) ≤ (k : Int) := Int.natCast_nonneg _
      have hk1 : (k : Int) < (n : Int) := by omega
      go_wp2_with (refine kept_append_intro _ _ _ _ v' (w' := w') (by rfl) (by rfl) (by exact HR.out) ?_)
      exact ⟨⟨k + 1, by omega, by go_num, HO2, HB2⟩, by simp [intOf]; omega⟩
    · have hke : ps.take k = ps := List.take_of_length_le (by rw [← HN.out]; omega)
      have HO2 := HO
      rw [hke] at HO2
      clear hke HO
      go_wp2
      go_ret
      exact ⟨_, rfl, HO2.out, HW.out⟩
end
end Go.Proofs.YtkmfnafecdfedaaGreatDoor
/- The program's number, noteOf. -/
namespace Go.Proofs.YtkmfnafecdfedaaGreatDoor
open Go.RowKit
set_option maxRecDepth 100000

theorem make_u8 (n : Nat) (hn : n ≤ 100000) (w : World) : (Instr.makeSlice 22 (.int .i64 (n : Int)) (.int .i64 (n : Int))).run Tryz.prog w =
    .ok (.slice (some ⟨w.heap.size, 0, none⟩) n n) (w.alloc (.cells (bcells (List.replicate n 0)).toArray 5)) := by
  obtain ⟨i0, hi0, hz0, hz1, hz2⟩ := info_parts Tryz.infoU8
  have := run_make (P := Tryz.prog) w 22 5 i0 _ Tryz.underlying22 hi0 hz0 .i64 .i64 (n : Int) (n : Int) (by omega) (Int.le_refl _) (by rw [hz2]; omega) (by omega)
  simp only [Int.toNat_natCast, hz1, Value.cells, Nat.mul_one] at this
  rw [this]
  congr 3
  apply Array.ext_getElem?
  intro k
  by_cases hk : k < n
  · simp [madeCells, bcells, hk, Nat.mod_one]
  · simp [madeCells, bcells, hk]
theorem make_two (w : World) : (Instr.makeSlice 22 (.int .i64 2) (.int .i64 2)).run Tryz.prog w = .ok (.slice (some ⟨w.heap.size, 0, none⟩) 2 2) (w.alloc (.cells #[.int .u8 0, .int .u8 0] 5)) := make_u8 2 (by omega) w
theorem make_one (w : World) : (Instr.makeSlice 22 (.int .i64 1) (.int .i64 1)).run Tryz.prog w = .ok (.slice (some ⟨w.heap.size, 0, none⟩) 1 1) (w.alloc (.cells #[.int .u8 0] 5)) := make_u8 1 (by omega) w
set_option maxHeartbeats 800000 in
theorem number_two (n : Nat) (w : World) (hn : n < 65536) : Calls Tryz.prog 37 #[.int .i64 (n : Int), .int .i64 2] w fun e w' =>
    e = .returned (.slice (some ⟨w.heap.size, 0, none⟩) 2 2) ∧ w' = w.alloc (.cells #[.int .u8 ((n : Int) / 256), .int .u8 ((n : Int) % 256)] 5) := by
  have hmk := make_two w
  go_enter Tryz.func37, Tryz.ntmps37
  go_wp2
  go_loopw [11] (fun i wq => (i = .int .i64 0 ∧ wq = w.alloc (.cells #[.int .u8 0, .int .u8 0] 5)) ∨ (i = .int .i64 1 ∧ wq = w.alloc (.cells #[.int .u8 ((n : Int) / 256), .int .u8 0] 5)) ∨ (i = .int .i64 2 ∧ wq = w.alloc (.cells #[.int .u8 ((n : Int) / 256), .int .u8 ((n : Int) % 256)] 5))) (fun i _ => 2 - (intOf i).toNat)
  case atStart => exact .inl ⟨rfl, rfl⟩
  case round =>
    rcases hrel with ⟨rfl, rfl⟩ | ⟨rfl, rfl⟩ | ⟨rfl, rfl⟩
    · go_wp2
      exact ⟨.inr (.inl ⟨rfl, trivial⟩), by simp [intOf]⟩
    · go_wp2
      exact ⟨.inr (.inr ⟨rfl, trivial⟩), by simp [intOf]⟩
    · go_wp2
      go_ret
      exact ⟨rfl, rfl⟩
set_option maxHeartbeats 800000 in
theorem number_one (n : Nat) (w : World) (hn : n < 256) : Calls Tryz.prog 37 #[.int .i64 (n : Int), .int .i64 1] w fun e w' =>
    e = .returned (.slice (some ⟨w.heap.size, 0, none⟩) 1 1) ∧ w' = w.alloc (.cells #[.int .u8 (n : Int)] 5) := by
  have hmk := make_one w
  go_enter Tryz.func37, Tryz.ntmps37
  go_wp2
  go_loopw [11] (fun i wq => (i = .int .i64 0 ∧ wq = w.alloc (.cells #[.int .u8 0] 5)) ∨ (i = .int .i64 1 ∧ wq = w.alloc (.cells #[.int .u8 (n : Int)] 5))) (fun i _ => 1 - (intOf i).toNat)
  case atStart => exact .inl ⟨rfl, rfl⟩
  case round =>
    rcases hrel with ⟨rfl, rfl⟩ | ⟨rfl, rfl⟩
    · go_wp2
      exact ⟨.inr ⟨rfl, trivial⟩, by simp [intOf]⟩
    · go_wp2
      go_ret
      exact ⟨rfl, rfl⟩
/-- A Note's value. -/
def noteV (c s : Nat) (v : Value) : Value := .agg #[.int .i64 (c : Int), .int .i64 (s : Int), v]
/-- A Note whose Data is memory from B on. -/
def NoteIs (B : Nat) (w : World) (u : Value) (c s : Nat) (d : List Nat) : Prop := ∃ a cap, u = .agg #[.int .i64 (c : Int), .int .i64 (s : Int), .slice a d.length cap] ∧ w.ownsRow B 5 1 (.slice a d.length cap) d.length (bcells d)
set_option maxHeartbeats 1600000 in
theorem noteof_any (c s : Nat) (a : Option Addr) (cap : Nat) (d : List Nat) (w : World) (hl : d.length ≤ 50000) (h : BRd w a d) :
    Calls Tryz.prog 21 #[.int .i64 (c : Int), .int .i64 (s : Int), .slice a d.length cap] w fun e w' => ∃ u, e = .returned u ∧ NoteIs w.heap.size w' u c s d ∧ Below w.heap.size w w' := by
  have hb1 : Below w.heap.size w ((w.alloc (.cells #[.int .i64 0, .int .i64 0, .slice none 0 0] 38)).alloc (.cells #[.slice a d.length cap] 22)) := ((Below.refl _ _).alloc (Nat.le_refl _) _).alloc (by simp) _
  have hfl : flatB [(a, cap, d)] = d := by simp [flatB]
  have K := obo_any (w.heap.size + 1) 0 1 [(a, cap, d)] ((w.alloc (.cells #[.int .i64 0, .int .i64 0, .slice none 0 0] 38)).alloc (.cells #[.slice a d.length cap] 22)) (by simp) (fun i x hx => by
    match i with
    | 0 =>
      simp at hx
      subst hx
      simp [go_sem]
    | i + 1 => simp at hx) (fun x hx => by simp at hx; subst hx; exact h.below hb1) (by rw [hfl]; omega)
  rw [hfl] at K
  have K2 : Hid (Calls Tryz.prog 36 #[.slice (some ⟨w.heap.size + 1, 0, none⟩) 1 1] ((w.alloc (.cells #[.int .i64 0, .int .i64 0, .slice none 0 0] 38)).alloc (.cells #[.slice a d.length cap] 22)) fun e w3 => ∃ a9 c9, e = .returned (.slice a9 d.length c9) ∧ Hid (w3.ownsRow (w.heap.size + 1) 5 1 (.slice a9 d.length c9) d.length (bcells d)) ∧ Hid (Below w.heap.size w w3) ∧ w.heap.size < w3.heap.size ∧
      w3.cell? ⟨w.heap.size, 0, none⟩ = some (.int .i64 0) ∧ w3.cell? ⟨w.heap.size, 1, none⟩ = some (.int .i64 0) ∧ w3.cell? ⟨w.heap.size, 2, none⟩ = some (.slice none 0 0) ∧ w3.frozen? ⟨w.heap.size, 0, none⟩ = false ∧ w3.frozen? ⟨w.heap.size, 1, none⟩ = false ∧ w3.frozen? ⟨w.heap.size, 2, none⟩ = false) := by
    refine K.mono ?_
    rintro e w3 ⟨v, rfl, ho, hb3⟩
    obtain ⟨a9, c9, rfl⟩ := own_shape ho
    simp only [World.size_alloc] at ho hb3
    have hc : ∀ j, w3.cell? ⟨w.heap.size, j, none⟩ = _ := fun j => hb3.cell (p := ⟨w.heap.size, j, none⟩) (by show w.heap.size < w.heap.size + 1 + 1; omega)
    have hf : ∀ j, w3.frozen? ⟨w.heap.size, j, none⟩ = _ := fun j => hb3.frozen (p := ⟨w.heap.size, j, none⟩) (by show w.heap.size < w.heap.size + 1 + 1; omega)
    refine ⟨a9, c9, rfl, own_low ho (by omega), hb1.trans (hb3.mono (by omega)), by have := hb3.size; simp at this; omega, ?_, ?_, ?_, ?_, ?_, ?_⟩
    · rw [hc]; simp [go_sem]
    · rw [hc]; simp [go_sem]
    · rw [hc]; simp [go_sem]
    · rw [hf]; simp [go_sem]
    · rw [hf]; simp [go_sem]
    · rw [hf]; simp [go_sem]
  clear K hb1 hfl h
  unfold NoteIs
  generalize d.length = n at *
  go_enter Tryz.func21, Tryz.ntmps21
  go_wp2_with fail
  refine K2.out.mono ?_
  rintro e w3 ⟨a9, c9, rfl, HO, HB, hz3, r0, r1, r2, f0, f1, f2⟩
  go_wp2_with fail
  refine bodyPost_ret (v := .agg #[.int .i64 c, .int .i64 s, .slice a9 n c9]) (by simp [results, Tryz.results21, go_sem, r0, r1, r2]) rfl ⟨_, rfl, ⟨a9, c9, rfl, ?_⟩, ?_⟩
  · exact own_low (own_under (own_under (own_under HO.out (by omega) _ _) (by omega) _ _) (by omega) _ _) (by omega)
  · exact ((HB.out.setCell (Nat.le_refl _) _).setCell (Nat.le_refl _) _).setCell (Nat.le_refl _) _
/-- A Note's box that was made just now. -/
def NtBox (w : World) (X : Nat) : Prop := X < w.heap.size ∧ w.cell? ⟨X, 0, none⟩ = some (.int .i64 0) ∧ w.cell? ⟨X, 1, none⟩ = some (.int .i64 0) ∧ w.cell? ⟨X, 2, none⟩ = some (.slice none 0 0) ∧ w.frozen? ⟨X, 0, none⟩ = false ∧ w.frozen? ⟨X, 1, none⟩ = false ∧ w.frozen? ⟨X, 2, none⟩ = false
theorem NtBox.below {w w' : World} {X B : Nat} (h : NtBox w X) (hb : Below B w w') (hX : X < B) : NtBox w' X := by
  obtain ⟨h0, h1, h2, h3, h4, h5, h6⟩ := h
  have hc : ∀ j, w'.cell? ⟨X, j, none⟩ = w.cell? ⟨X, j, none⟩ := fun j => hb.cell (p := ⟨X, j, none⟩) hX
  have hf : ∀ j, w'.frozen? ⟨X, j, none⟩ = w.frozen? ⟨X, j, none⟩ := fun j => hb.frozen (p := ⟨X, j, none⟩) hX
  exact ⟨Nat.lt_of_lt_of_le h0 hb.size, by rw [hc]; exact h1, by rw [hc]; exact h2, by rw [hc]; exact h3, by rw [hf]; exact h4, by rw [hf]; exact h5, by rw [hf]; exact h6⟩
theorem NtBox.made (w : World) : NtBox (w.alloc (.cells #[.int .i64 0, .int .i64 0, .slice none 0 0] 38)) w.heap.size := by
  refine ⟨by simp, ?_, ?_, ?_, ?_, ?_, ?_⟩ <;> simp [go_sem]
/-- noteOf, beside an answer's box. -/
theorem noteof_box (c s : Nat) (a : Option Addr) (cap n : Nat) (d : List Nat) (W : World) (X : Nat) (hn : d.length = n) (hl : n ≤ 50000) (h : BRd W a d) (hX : NtBox W X) :
    Calls Tryz.prog 21 #[.int .i64 (c : Int), .int .i64 (s : Int), .slice a n cap] W fun e w' => ∃ a9 c9, e = .returned (.agg #[.int .i64 (c : Int), .int .i64 (s : Int), .slice a9 n c9]) ∧ Hid (w'.ownsRow W.heap.size 5 1 (.slice a9 n c9) n (bcells d)) ∧ Hid (Below W.heap.size W w') ∧ Hid (NtBox w' X) := by
  subst hn
  refine (noteof_any c s a cap d W hl h).mono ?_
  rintro e w' ⟨u, rfl, ⟨a9, c9, rfl, ho⟩, hb⟩
  exact ⟨a9, c9, rfl, ho, hb, hX.below hb hX.1⟩
end Go.Proofs.YtkmfnafecdfedaaGreatDoor
