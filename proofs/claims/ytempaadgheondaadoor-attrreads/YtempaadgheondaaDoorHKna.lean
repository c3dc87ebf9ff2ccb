/- The document's known: flags and lengths. -/
import Derived.Test.YtempaadgheondaaDoorAtRw
import Derived.Test.YtempaadgheondaaDoorHRaw
namespace Go.Proofs.YtempaadgheondaaDoor
open Go.RowKit
set_option maxRecDepth 100000

/-- What known answers. -/
def KnRes (X B : Nat) (w w' : World) (r : Res) (e : Ending) : Prop :=
  match r with
  | .inl n => ∃ a9 c9, e = .returned (.agg #[.int .i64 3, .int .i64 (n.2.1 : Int), .slice a9 n.2.2.length c9]) ∧ w'.ownsRow w.heap.size 5 1 (.slice a9 n.2.2.length c9) n.2.2.length (bcells n.2.2) ∧ Keeps (NotBox X B) w w'
  | .inr a' => e = .returned (.agg #[.int .i64 0, .int .i64 0, .slice none 0 0]) ∧ Box w' X B a' ∧ Keeps (NotBox X B) w w'
/-- The world behind known's tables. -/
def knW (w : World) : World := ((w.alloc (.cells #[.int .i64 0, .int .i64 0, .slice none 0 0] 34)).alloc (.cells #[.int .i64 0, .int .i64 64, .int .i64 64, .int .i64 64, .int .i64 128, .int .i64 64, .int .i64 64, .int .i64 192, .int .i64 192] 3)).alloc (.cells #[.int .i64 0, .int .i64 1, .int .i64 (-1), .int .i64 4, .int .i64 4, .int .i64 4, .int .i64 0, .int .i64 8, .int .i64 (-1)] 3)
theorem knW_below (w : World) : Below w.heap.size w (knW w) := (((Below.refl _ _).alloc (Nat.le_refl _) _).alloc (by simp) _).alloc (by simp; omega) _
theorem knW_size (w : World) : (knW w).heap.size = w.heap.size + 1 + 1 + 1 := by unfold knW; simp
theorem knW_block (w : World) : (knW w).heap[w.heap.size]? = some (.cells #[.int .i64 0, .int .i64 0, .slice none 0 0] 34 (0, 0)) := by
  unfold knW
  rw [heap_alloc_old _ _ (by simp; omega), heap_alloc_old _ _ (by simp)]
  exact heap_alloc_new _ _
theorem byte_lt {b : List Nat} (hb : ∀ x ∈ b, x < 256) (i : Nat) : b.getD i 0 < 256 := by
  rw [List.getD_eq_getElem?_getD]
  cases h : b[i]? with
  | none => decide
  | some x => exact hb x (List.mem_of_getElem? h)
/-- The answer's box. -/
structure NB (w W : World) : Prop where
  c0 : W.cell? ⟨w.heap.size, 0, none⟩ = some (.int .i64 0)
  c1 : W.cell? ⟨w.heap.size, 1, none⟩ = some (.int .i64 0)
  c2 : W.cell? ⟨w.heap.size, 2, none⟩ = some (.slice none 0 0)
  f0 : W.frozen? ⟨w.heap.size, 0, none⟩ = false
  f1 : W.frozen? ⟨w.heap.size, 1, none⟩ = false
  f2 : W.frozen? ⟨w.heap.size, 2, none⟩ = false
theorem nb_of {w W : World} (h : W.heap[w.heap.size]? = some (.cells #[.int .i64 0, .int .i64 0, .slice none 0 0] 34 (0, 0))) : NB w W := by
  refine ⟨?_, ?_, ?_, ?_, ?_, ?_⟩ <;> simp [World.cell?, World.frozen?, h]
/-- The same zeros once more. -/
theorem nb_zero {w W : World} (h : W.heap[w.heap.size]? = some (.cells #[.int .i64 0, .int .i64 0, .slice none 0 0] 34 (0, 0))) : ((W.setCell ⟨w.heap.size, 0, none⟩ (.int .i64 0)).setCell ⟨w.heap.size, 1, none⟩ (.int .i64 0)).setCell ⟨w.heap.size, 2, none⟩ (.slice none 0 0) = W := by
  have k : ∀ j v, #[Value.int .i64 0, .int .i64 0, .slice none 0 0].setIfInBounds j v = #[Value.int .i64 0, .int .i64 0, .slice none 0 0] → W.setCell ⟨w.heap.size, j, none⟩ v = W := fun j v e => by
    rw [setCell_eq_setRow W _ _ _ _ _ _ h, e, setRow_self W _ _ _ _ h]
  rw [k 0 _ rfl, k 1 _ rfl, k 2 _ rfl]
theorem nb_block {w W : World} (hb : Below (knW w).heap.size (knW w) W) : W.heap[w.heap.size]? = some (.cells #[.int .i64 0, .int .i64 0, .slice none 0 0] 34 (0, 0)) := by rw [hb.block _ (by rw [knW_size]; omega)]; exact knW_block w
theorem nb_later {w W : World} (hb : Below (knW w).heap.size (knW w) W) : NB w W := nb_of (by rw [hb.block _ (by rw [knW_size]; omega)]; exact knW_block w)
end Go.Proofs.YtempaadgheondaaDoor
/- The document's known: flags and lengths. -/
namespace Go.Proofs.YtempaadgheondaaDoor
open Go.RowKit
set_option maxRecDepth 100000

set_option maxHeartbeats 3200000 in
theorem kn_fa1 (fl : Nat) (X : Nat) (da : Option Addr) (dn dc : Nat) (la : Option Addr) (ln lc : Nat) (all : List Nat) (w : World) (hf : fl < 256) (hl : all.length = ln) (hln : ln ≤ 60000) (hr : BRd w la all) (h1 : ((fl : Int) / 64 * 64 != 64) = true) :
    Calls Tryd.prog 41 #[.pointer (some ⟨X, 0, none⟩), .int .i64 (fl : Int), .int .i64 1, .slice da dn dc, .slice la ln lc] w fun e w' => ∃ a9 c9, e = .returned (.agg #[.int .i64 3, .int .i64 4, .slice a9 ln c9]) ∧ w'.ownsRow w.heap.size 5 1 (.slice a9 ln c9) ln (bcells all) ∧ Below w.heap.size w w' := by
  have KN := hide (note_any 3 4 la lc all (knW w) (by omega) (hr.below (knW_below w)))
  rw [hl] at KN
  clear hr hl
  go_enter Tryd.func41, Tryd.ntmps41
  go_wp2_with fail
  refine KN.out.mono ?_
  rintro e w4 ⟨a9, c9, rfl, ho4, hb4⟩
  obtain ⟨c0, c1, c2, f0, f1, f2⟩ := nb_later hb4
  have HO4 := hide ho4
  have HB4 := hide ((knW_below w).trans (hb4.mono (knW_below w).size))
  have hz : w.heap.size < (knW w).heap.size := by rw [knW_size]; omega
  have HZ := hide hz
  clear ho4 hb4 hz
  go_wp2_with fail
  exact bodyPost_ret (v := .agg #[.int .i64 3, .int .i64 4, .slice a9 ln c9]) (by simp [results, Tryd.results41, go_sem, c0, c1, c2]) rfl ⟨a9, c9, rfl, own_base (own_under (own_under (own_under HO4.out HZ.out _ _) HZ.out _ _) HZ.out _ _) (Nat.le_of_lt HZ.out), ((HB4.out.setCell (Nat.le_refl _) _).setCell (Nat.le_refl _) _).setCell (Nat.le_refl _) _⟩
set_option maxHeartbeats 3200000 in
theorem kn_fb1 (fl : Nat) (X : Nat) (da : Option Addr) (dn dc : Nat) (la : Option Addr) (ln lc : Nat) (all : List Nat) (w : World) (hf : fl < 256) (hl : all.length = ln) (hln : ln ≤ 60000) (hr : BRd w la all) (h1 : ((fl : Int) / 64 * 64 != 64) = false) (h2 : ((fl : Int) / 32 % 2 == 1) = true) :
    Calls Tryd.prog 41 #[.pointer (some ⟨X, 0, none⟩), .int .i64 (fl : Int), .int .i64 1, .slice da dn dc, .slice la ln lc] w fun e w' => ∃ a9 c9, e = .returned (.agg #[.int .i64 3, .int .i64 4, .slice a9 ln c9]) ∧ w'.ownsRow w.heap.size 5 1 (.slice a9 ln c9) ln (bcells all) ∧ Below w.heap.size w w' := by
  have KN := hide (note_any 3 4 la lc all (knW w) (by omega) (hr.below (knW_below w)))
  rw [hl] at KN
  clear hr hl
  go_enter Tryd.func41, Tryd.ntmps41
  go_wp2_with fail
  refine KN.out.mono ?_
  rintro e w4 ⟨a9, c9, rfl, ho4, hb4⟩
  obtain ⟨c0, c1, c2, f0, f1, f2⟩ := nb_later hb4
  have HO4 := hide ho4
  have HB4 := hide ((knW_below w).trans (hb4.mono (knW_below w).size))
  have hz : w.heap.size < (knW w).heap.size := by rw [knW_size]; omega
  have HZ := hide hz
  clear ho4 hb4 hz
  go_wp2_with fail
  exact bodyPost_ret (v := .agg #[.int .i64 3, .int .i64 4, .slice a9 ln c9]) (by simp [results, Tryd.results41, go_sem, c0, c1, c2]) rfl ⟨a9, c9, rfl, own_base (own_under (own_under (own_under HO4.out HZ.out _ _) HZ.out _ _) HZ.out _ _) (Nat.le_of_lt HZ.out), ((HB4.out.setCell (Nat.le_refl _) _).setCell (Nat.le_refl _) _).setCell (Nat.le_refl _) _⟩
set_option maxHeartbeats 3200000 in
theorem kn_s1 (fl : Nat) (X : Nat) (da : Option Addr) (dn dc : Nat) (la : Option Addr) (ln lc : Nat) (all : List Nat) (w : World) (hf : fl < 256) (hl : all.length = ln) (hln : ln ≤ 60000) (hr : BRd w la all) (h1 : ((fl : Int) / 64 * 64 != 64) = false) (h2 : ((fl : Int) / 32 % 2 == 1) = false) (h3 : ((dn : Int) != 1) = true) :
    Calls Tryd.prog 41 #[.pointer (some ⟨X, 0, none⟩), .int .i64 (fl : Int), .int .i64 1, .slice da dn dc, .slice la ln lc] w fun e w' => ∃ a9 c9, e = .returned (.agg #[.int .i64 3, .int .i64 5, .slice a9 ln c9]) ∧ w'.ownsRow w.heap.size 5 1 (.slice a9 ln c9) ln (bcells all) ∧ Below w.heap.size w w' := by
  have KN := hide (note_any 3 5 la lc all (knW w) (by omega) (hr.below (knW_below w)))
  rw [hl] at KN
  clear hr hl
  go_enter Tryd.func41, Tryd.ntmps41
  go_wp2_with fail
  refine KN.out.mono ?_
  rintro e w4 ⟨a9, c9, rfl, ho4, hb4⟩
  obtain ⟨c0, c1, c2, f0, f1, f2⟩ := nb_later hb4
  have HO4 := hide ho4
  have HB4 := hide ((knW_below w).trans (hb4.mono (knW_below w).size))
  have hz : w.heap.size < (knW w).heap.size := by rw [knW_size]; omega
  have HZ := hide hz
  clear ho4 hb4 hz
  go_wp2_with fail
  exact bodyPost_ret (v := .agg #[.int .i64 3, .int .i64 5, .slice a9 ln c9]) (by simp [results, Tryd.results41, go_sem, c0, c1, c2]) rfl ⟨a9, c9, rfl, own_base (own_under (own_under (own_under HO4.out HZ.out _ _) HZ.out _ _) HZ.out _ _) (Nat.le_of_lt HZ.out), ((HB4.out.setCell (Nat.le_refl _) _).setCell (Nat.le_refl _) _).setCell (Nat.le_refl _) _⟩
set_option maxHeartbeats 3200000 in
theorem kn_fa2 (fl : Nat) (X : Nat) (da : Option Addr) (dn dc : Nat) (la : Option Addr) (ln lc : Nat) (all : List Nat) (w : World) (hf : fl < 256) (hl : all.length = ln) (hln : ln ≤ 60000) (hr : BRd w la all) (h1 : ((fl : Int) / 64 * 64 != 64) = true) :
    Calls Tryd.prog 41 #[.pointer (some ⟨X, 0, none⟩), .int .i64 (fl : Int), .int .i64 2, .slice da dn dc, .slice la ln lc] w fun e w' => ∃ a9 c9, e = .returned (.agg #[.int .i64 3, .int .i64 4, .slice a9 ln c9]) ∧ w'.ownsRow w.heap.size 5 1 (.slice a9 ln c9) ln (bcells all) ∧ Below w.heap.size w w' := by
  have KN := hide (note_any 3 4 la lc all (knW w) (by omega) (hr.below (knW_below w)))
  rw [hl] at KN
  clear hr hl
  go_enter Tryd.func41, Tryd.ntmps41
  go_wp2_with fail
  refine KN.out.mono ?_
  rintro e w4 ⟨a9, c9, rfl, ho4, hb4⟩
  obtain ⟨c0, c1, c2, f0, f1, f2⟩ := nb_later hb4
  have HO4 := hide ho4
  have HB4 := hide ((knW_below w).trans (hb4.mono (knW_below w).size))
  have hz : w.heap.size < (knW w).heap.size := by rw [knW_size]; omega
  have HZ := hide hz
  clear ho4 hb4 hz
  go_wp2_with fail
  exact bodyPost_ret (v := .agg #[.int .i64 3, .int .i64 4, .slice a9 ln c9]) (by simp [results, Tryd.results41, go_sem, c0, c1, c2]) rfl ⟨a9, c9, rfl, own_base (own_under (own_under (own_under HO4.out HZ.out _ _) HZ.out _ _) HZ.out _ _) (Nat.le_of_lt HZ.out), ((HB4.out.setCell (Nat.le_refl _) _).setCell (Nat.le_refl _) _).setCell (Nat.le_refl _) _⟩
set_option maxHeartbeats 3200000 in
theorem kn_fb2 (fl : Nat) (X : Nat) (da : Option Addr) (dn dc : Nat) (la : Option Addr) (ln lc : Nat) (all : List Nat) (w : World) (hf : fl < 256) (hl : all.length = ln) (hln : ln ≤ 60000) (hr : BRd w la all) (h1 : ((fl : Int) / 64 * 64 != 64) = false) (h2 : ((fl : Int) / 32 % 2 == 1) = true) :
    Calls Tryd.prog 41 #[.pointer (some ⟨X, 0, none⟩), .int .i64 (fl : Int), .int .i64 2, .slice da dn dc, .slice la ln lc] w fun e w' => ∃ a9 c9, e = .returned (.agg #[.int .i64 3, .int .i64 4, .slice a9 ln c9]) ∧ w'.ownsRow w.heap.size 5 1 (.slice a9 ln c9) ln (bcells all) ∧ Below w.heap.size w w' := by
  have KN := hide (note_any 3 4 la lc all (knW w) (by omega) (hr.below (knW_below w)))
  rw [hl] at KN
  clear hr hl
  go_enter Tryd.func41, Tryd.ntmps41
  go_wp2_with fail
  refine KN.out.mono ?_
  rintro e w4 ⟨a9, c9, rfl, ho4, hb4⟩
  obtain ⟨c0, c1, c2, f0, f1, f2⟩ := nb_later hb4
  have HO4 := hide ho4
  have HB4 := hide ((knW_below w).trans (hb4.mono (knW_below w).size))
  have hz : w.heap.size < (knW w).heap.size := by rw [knW_size]; omega
  have HZ := hide hz
  clear ho4 hb4 hz
  go_wp2_with fail
  exact bodyPost_ret (v := .agg #[.int .i64 3, .int .i64 4, .slice a9 ln c9]) (by simp [results, Tryd.results41, go_sem, c0, c1, c2]) rfl ⟨a9, c9, rfl, own_base (own_under (own_under (own_under HO4.out HZ.out _ _) HZ.out _ _) HZ.out _ _) (Nat.le_of_lt HZ.out), ((HB4.out.setCell (Nat.le_refl _) _).setCell (Nat.le_refl _) _).setCell (Nat.le_refl _) _⟩
set_option maxHeartbeats 3200000 in
theorem kn_fa3 (fl : Nat) (X : Nat) (da : Option Addr) (dn dc : Nat) (la : Option Addr) (ln lc : Nat) (all : List Nat) (w : World) (hf : fl < 256) (hl : all.length = ln) (hln : ln ≤ 60000) (hr : BRd w la all) (h1 : ((fl : Int) / 64 * 64 != 64) = true) :
    Calls Tryd.prog 41 #[.pointer (some ⟨X, 0, none⟩), .int .i64 (fl : Int), .int .i64 3, .slice da dn dc, .slice la ln lc] w fun e w' => ∃ a9 c9, e = .returned (.agg #[.int .i64 3, .int .i64 4, .slice a9 ln c9]) ∧ w'.ownsRow w.heap.size 5 1 (.slice a9 ln c9) ln (bcells all) ∧ Below w.heap.size w w' := by
  have KN := hide (note_any 3 4 la lc all (knW w) (by omega) (hr.below (knW_below w)))
  rw [hl] at KN
  clear hr hl
  go_enter Tryd.func41, Tryd.ntmps41
  go_wp2_with fail
  refine KN.out.mono ?_
  rintro e w4 ⟨a9, c9, rfl, ho4, hb4⟩
  obtain ⟨c0, c1, c2, f0, f1, f2⟩ := nb_later hb4
  have HO4 := hide ho4
  have HB4 := hide ((knW_below w).trans (hb4.mono (knW_below w).size))
  have hz : w.heap.size < (knW w).heap.size := by rw [knW_size]; omega
  have HZ := hide hz
  clear ho4 hb4 hz
  go_wp2_with fail
  exact bodyPost_ret (v := .agg #[.int .i64 3, .int .i64 4, .slice a9 ln c9]) (by simp [results, Tryd.results41, go_sem, c0, c1, c2]) rfl ⟨a9, c9, rfl, own_base (own_under (own_under (own_under HO4.out HZ.out _ _) HZ.out _ _) HZ.out _ _) (Nat.le_of_lt HZ.out), ((HB4.out.setCell (Nat.le_refl _) _).setCell (Nat.le_refl _) _).setCell (Nat.le_refl _) _⟩
set_option maxHeartbeats 3200000 in
theorem kn_fb3 (fl : Nat) (X : Nat) (da : Option Addr) (dn dc : Nat) (la : Option Addr) (ln lc : Nat) (all : List Nat) (w : World) (hf : fl < 256) (hl : all.length = ln) (hln : ln ≤ 60000) (hr : BRd w la all) (h1 : ((fl : Int) / 64 * 64 != 64) = false) (h2 : ((fl : Int) / 32 % 2 == 1) = true) :
    Calls Tryd.prog 41 #[.pointer (some ⟨X, 0, none⟩), .int .i64 (fl : Int), .int .i64 3, .slice da dn dc, .slice la ln lc] w fun e w' => ∃ a9 c9, e = .returned (.agg #[.int .i64 3, .int .i64 4, .slice a9 ln c9]) ∧ w'.ownsRow w.heap.size 5 1 (.slice a9 ln c9) ln (bcells all) ∧ Below w.heap.size w w' := by
  have KN := hide (note_any 3 4 la lc all (knW w) (by omega) (hr.below (knW_below w)))
  rw [hl] at KN
  clear hr hl
  go_enter Tryd.func41, Tryd.ntmps41
  go_wp2_with fail
  refine KN.out.mono ?_
  rintro e w4 ⟨a9, c9, rfl, ho4, hb4⟩
  obtain ⟨c0, c1, c2, f0, f1, f2⟩ := nb_later hb4
  have HO4 := hide ho4
  have HB4 := hide ((knW_below w).trans (hb4.mono (knW_below w).size))
  have hz : w.heap.size < (knW w).heap.size := by rw [knW_size]; omega
  have HZ := hide hz
  clear ho4 hb4 hz
  go_wp2_with fail
  exact bodyPost_ret (v := .agg #[.int .i64 3, .int .i64 4, .slice a9 ln c9]) (by simp [results, Tryd.results41, go_sem, c0, c1, c2]) rfl ⟨a9, c9, rfl, own_base (own_under (own_under (own_under HO4.out HZ.out _ _) HZ.out _ _) HZ.out _ _) (Nat.le_of_lt HZ.out), ((HB4.out.setCell (Nat.le_refl _) _).setCell (Nat.le_refl _) _).setCell (Nat.le_refl _) _⟩
set_option maxHeartbeats 3200000 in
theorem kn_s3 (fl : Nat) (X : Nat) (da : Option Addr) (dn dc : Nat) (la : Option Addr) (ln lc : Nat) (all : List Nat) (w : World) (hf : fl < 256) (hl : all.length = ln) (hln : ln ≤ 60000) (hr : BRd w la all) (h1 : ((fl : Int) / 64 * 64 != 64) = false) (h2 : ((fl : Int) / 32 % 2 == 1) = false) (h3 : ((dn : Int) != 4) = true) :
    Calls Tryd.prog 41 #[.pointer (some ⟨X, 0, none⟩), .int .i64 (fl : Int), .int .i64 3, .slice da dn dc, .slice la ln lc] w fun e w' => ∃ a9 c9, e = .returned (.agg #[.int .i64 3, .int .i64 5, .slice a9 ln c9]) ∧ w'.ownsRow w.heap.size 5 1 (.slice a9 ln c9) ln (bcells all) ∧ Below w.heap.size w w' := by
  have KN := hide (note_any 3 5 la lc all (knW w) (by omega) (hr.below (knW_below w)))
  rw [hl] at KN
  clear hr hl
  go_enter Tryd.func41, Tryd.ntmps41
  go_wp2_with fail
  refine KN.out.mono ?_
  rintro e w4 ⟨a9, c9, rfl, ho4, hb4⟩
  obtain ⟨c0, c1, c2, f0, f1, f2⟩ := nb_later hb4
  have HO4 := hide ho4
  have HB4 := hide ((knW_below w).trans (hb4.mono (knW_below w).size))
  have hz : w.heap.size < (knW w).heap.size := by rw [knW_size]; omega
  have HZ := hide hz
  clear ho4 hb4 hz
  go_wp2_with fail
  exact bodyPost_ret (v := .agg #[.int .i64 3, .int .i64 5, .slice a9 ln c9]) (by simp [results, Tryd.results41, go_sem, c0, c1, c2]) rfl ⟨a9, c9, rfl, own_base (own_under (own_under (own_under HO4.out HZ.out _ _) HZ.out _ _) HZ.out _ _) (Nat.le_of_lt HZ.out), ((HB4.out.setCell (Nat.le_refl _) _).setCell (Nat.le_refl _) _).setCell (Nat.le_refl _) _⟩
end Go.Proofs.YtempaadgheondaaDoor
/- The document's known: flags and lengths. -/
namespace Go.Proofs.YtempaadgheondaaDoor
open Go.RowKit
set_option maxRecDepth 100000

set_option maxHeartbeats 3200000 in
theorem kn_fa4 (fl : Nat) (X : Nat) (da : Option Addr) (dn dc : Nat) (la : Option Addr) (ln lc : Nat) (all : List Nat) (w : World) (hf : fl < 256) (hl : all.length = ln) (hln : ln ≤ 60000) (hr : BRd w la all) (h1 : ((fl : Int) / 64 * 64 != 128) = true) :
    Calls Tryd.prog 41 #[.pointer (some ⟨X, 0, none⟩), .int .i64 (fl : Int), .int .i64 4, .slice da dn dc, .slice la ln lc] w fun e w' => ∃ a9 c9, e = .returned (.agg #[.int .i64 3, .int .i64 4, .slice a9 ln c9]) ∧ w'.ownsRow w.heap.size 5 1 (.slice a9 ln c9) ln (bcells all) ∧ Below w.heap.size w w' := by
  have KN := hide (note_any 3 4 la lc all (knW w) (by omega) (hr.below (knW_below w)))
  rw [hl] at KN
  clear hr hl
  go_enter Tryd.func41, Tryd.ntmps41
  go_wp2_with fail
  refine KN.out.mono ?_
  rintro e w4 ⟨a9, c9, rfl, ho4, hb4⟩
  obtain ⟨c0, c1, c2, f0, f1, f2⟩ := nb_later hb4
  have HO4 := hide ho4
  have HB4 := hide ((knW_below w).trans (hb4.mono (knW_below w).size))
  have hz : w.heap.size < (knW w).heap.size := by rw [knW_size]; omega
  have HZ := hide hz
  clear ho4 hb4 hz
  go_wp2_with fail
  exact bodyPost_ret (v := .agg #[.int .i64 3, .int .i64 4, .slice a9 ln c9]) (by simp [results, Tryd.results41, go_sem, c0, c1, c2]) rfl ⟨a9, c9, rfl, own_base (own_under (own_under (own_under HO4.out HZ.out _ _) HZ.out _ _) HZ.out _ _) (Nat.le_of_lt HZ.out), ((HB4.out.setCell (Nat.le_refl _) _).setCell (Nat.le_refl _) _).setCell (Nat.le_refl _) _⟩
set_option maxHeartbeats 3200000 in
theorem kn_fb4 (fl : Nat) (X : Nat) (da : Option Addr) (dn dc : Nat) (la : Option Addr) (ln lc : Nat) (all : List Nat) (w : World) (hf : fl < 256) (hl : all.length = ln) (hln : ln ≤ 60000) (hr : BRd w la all) (h1 : ((fl : Int) / 64 * 64 != 128) = false) (h2 : ((fl : Int) / 32 % 2 == 1) = true) :
    Calls Tryd.prog 41 #[.pointer (some ⟨X, 0, none⟩), .int .i64 (fl : Int), .int .i64 4, .slice da dn dc, .slice la ln lc] w fun e w' => ∃ a9 c9, e = .returned (.agg #[.int .i64 3, .int .i64 4, .slice a9 ln c9]) ∧ w'.ownsRow w.heap.size 5 1 (.slice a9 ln c9) ln (bcells all) ∧ Below w.heap.size w w' := by
  have KN := hide (note_any 3 4 la lc all (knW w) (by omega) (hr.below (knW_below w)))
  rw [hl] at KN
  clear hr hl
  go_enter Tryd.func41, Tryd.ntmps41
  go_wp2_with fail
  refine KN.out.mono ?_
  rintro e w4 ⟨a9, c9, rfl, ho4, hb4⟩
  obtain ⟨c0, c1, c2, f0, f1, f2⟩ := nb_later hb4
  have HO4 := hide ho4
  have HB4 := hide ((knW_below w).trans (hb4.mono (knW_below w).size))
  have hz : w.heap.size < (knW w).heap.size := by rw [knW_size]; omega
  have HZ := hide hz
  clear ho4 hb4 hz
  go_wp2_with fail
  exact bodyPost_ret (v := .agg #[.int .i64 3, .int .i64 4, .slice a9 ln c9]) (by simp [results, Tryd.results41, go_sem, c0, c1, c2]) rfl ⟨a9, c9, rfl, own_base (own_under (own_under (own_under HO4.out HZ.out _ _) HZ.out _ _) HZ.out _ _) (Nat.le_of_lt HZ.out), ((HB4.out.setCell (Nat.le_refl _) _).setCell (Nat.le_refl _) _).setCell (Nat.le_refl _) _⟩
set_option maxHeartbeats 3200000 in
theorem kn_s4 (fl : Nat) (X : Nat) (da : Option Addr) (dn dc : Nat) (la : Option Addr) (ln lc : Nat) (all : List Nat) (w : World) (hf : fl < 256) (hl : all.length = ln) (hln : ln ≤ 60000) (hr : BRd w la all) (h1 : ((fl : Int) / 64 * 64 != 128) = false) (h2 : ((fl : Int) / 32 % 2 == 1) = false) (h3 : ((dn : Int) != 4) = true) :
    Calls Tryd.prog 41 #[.pointer (some ⟨X, 0, none⟩), .int .i64 (fl : Int), .int .i64 4, .slice da dn dc, .slice la ln lc] w fun e w' => ∃ a9 c9, e = .returned (.agg #[.int .i64 3, .int .i64 5, .slice a9 ln c9]) ∧ w'.ownsRow w.heap.size 5 1 (.slice a9 ln c9) ln (bcells all) ∧ Below w.heap.size w w' := by
  have KN := hide (note_any 3 5 la lc all (knW w) (by omega) (hr.below (knW_below w)))
  rw [hl] at KN
  clear hr hl
  go_enter Tryd.func41, Tryd.ntmps41
  go_wp2_with fail
  refine KN.out.mono ?_
  rintro e w4 ⟨a9, c9, rfl, ho4, hb4⟩
  obtain ⟨c0, c1, c2, f0, f1, f2⟩ := nb_later hb4
  have HO4 := hide ho4
  have HB4 := hide ((knW_below w).trans (hb4.mono (knW_below w).size))
  have hz : w.heap.size < (knW w).heap.size := by rw [knW_size]; omega
  have HZ := hide hz
  clear ho4 hb4 hz
  go_wp2_with fail
  exact bodyPost_ret (v := .agg #[.int .i64 3, .int .i64 5, .slice a9 ln c9]) (by simp [results, Tryd.results41, go_sem, c0, c1, c2]) rfl ⟨a9, c9, rfl, own_base (own_under (own_under (own_under HO4.out HZ.out _ _) HZ.out _ _) HZ.out _ _) (Nat.le_of_lt HZ.out), ((HB4.out.setCell (Nat.le_refl _) _).setCell (Nat.le_refl _) _).setCell (Nat.le_refl _) _⟩
set_option maxHeartbeats 3200000 in
theorem kn_fa5 (fl : Nat) (X : Nat) (da : Option Addr) (dn dc : Nat) (la : Option Addr) (ln lc : Nat) (all : List Nat) (w : World) (hf : fl < 256) (hl : all.length = ln) (hln : ln ≤ 60000) (hr : BRd w la all) (h1 : ((fl : Int) / 64 * 64 != 64) = true) :
    Calls Tryd.prog 41 #[.pointer (some ⟨X, 0, none⟩), .int .i64 (fl : Int), .int .i64 5, .slice da dn dc, .slice la ln lc] w fun e w' => ∃ a9 c9, e = .returned (.agg #[.int .i64 3, .int .i64 4, .slice a9 ln c9]) ∧ w'.ownsRow w.heap.size 5 1 (.slice a9 ln c9) ln (bcells all) ∧ Below w.heap.size w w' := by
  have KN := hide (note_any 3 4 la lc all (knW w) (by omega) (hr.below (knW_below w)))
  rw [hl] at KN
  clear hr hl
  go_enter Tryd.func41, Tryd.ntmps41
  go_wp2_with fail
  refine KN.out.mono ?_
  rintro e w4 ⟨a9, c9, rfl, ho4, hb4⟩
  obtain ⟨c0, c1, c2, f0, f1, f2⟩ := nb_later hb4
  have HO4 := hide ho4
  have HB4 := hide ((knW_below w).trans (hb4.mono (knW_below w).size))
  have hz : w.heap.size < (knW w).heap.size := by rw [knW_size]; omega
  have HZ := hide hz
  clear ho4 hb4 hz
  go_wp2_with fail
  exact bodyPost_ret (v := .agg #[.int .i64 3, .int .i64 4, .slice a9 ln c9]) (by simp [results, Tryd.results41, go_sem, c0, c1, c2]) rfl ⟨a9, c9, rfl, own_base (own_under (own_under (own_under HO4.out HZ.out _ _) HZ.out _ _) HZ.out _ _) (Nat.le_of_lt HZ.out), ((HB4.out.setCell (Nat.le_refl _) _).setCell (Nat.le_refl _) _).setCell (Nat.le_refl _) _⟩
set_option maxHeartbeats 3200000 in
theorem kn_fb5 (fl : Nat) (X : Nat) (da : Option Addr) (dn dc : Nat) (la : Option Addr) (ln lc : Nat) (all : List Nat) (w : World) (hf : fl < 256) (hl : all.length = ln) (hln : ln ≤ 60000) (hr : BRd w la all) (h1 : ((fl : Int) / 64 * 64 != 64) = false) (h2 : ((fl : Int) / 32 % 2 == 1) = true) :
    Calls Tryd.prog 41 #[.pointer (some ⟨X, 0, none⟩), .int .i64 (fl : Int), .int .i64 5, .slice da dn dc, .slice la ln lc] w fun e w' => ∃ a9 c9, e = .returned (.agg #[.int .i64 3, .int .i64 4, .slice a9 ln c9]) ∧ w'.ownsRow w.heap.size 5 1 (.slice a9 ln c9) ln (bcells all) ∧ Below w.heap.size w w' := by
  have KN := hide (note_any 3 4 la lc all (knW w) (by omega) (hr.below (knW_below w)))
  rw [hl] at KN
  clear hr hl
  go_enter Tryd.func41, Tryd.ntmps41
  go_wp2_with fail
  refine KN.out.mono ?_
  rintro e w4 ⟨a9, c9, rfl, ho4, hb4⟩
  obtain ⟨c0, c1, c2, f0, f1, f2⟩ := nb_later hb4
  have HO4 := hide ho4
  have HB4 := hide ((knW_below w).trans (hb4.mono (knW_below w).size))
  have hz : w.heap.size < (knW w).heap.size := by rw [knW_size]; omega
  have HZ := hide hz
  clear ho4 hb4 hz
  go_wp2_with fail
  exact bodyPost_ret (v := .agg #[.int .i64 3, .int .i64 4, .slice a9 ln c9]) (by simp [results, Tryd.results41, go_sem, c0, c1, c2]) rfl ⟨a9, c9, rfl, own_base (own_under (own_under (own_under HO4.out HZ.out _ _) HZ.out _ _) HZ.out _ _) (Nat.le_of_lt HZ.out), ((HB4.out.setCell (Nat.le_refl _) _).setCell (Nat.le_refl _) _).setCell (Nat.le_refl _) _⟩
set_option maxHeartbeats 3200000 in
theorem kn_s5 (fl : Nat) (X : Nat) (da : Option Addr) (dn dc : Nat) (la : Option Addr) (ln lc : Nat) (all : List Nat) (w : World) (hf : fl < 256) (hl : all.length = ln) (hln : ln ≤ 60000) (hr : BRd w la all) (h1 : ((fl : Int) / 64 * 64 != 64) = false) (h2 : ((fl : Int) / 32 % 2 == 1) = false) (h3 : ((dn : Int) != 4) = true) :
    Calls Tryd.prog 41 #[.pointer (some ⟨X, 0, none⟩), .int .i64 (fl : Int), .int .i64 5, .slice da dn dc, .slice la ln lc] w fun e w' => ∃ a9 c9, e = .returned (.agg #[.int .i64 3, .int .i64 5, .slice a9 ln c9]) ∧ w'.ownsRow w.heap.size 5 1 (.slice a9 ln c9) ln (bcells all) ∧ Below w.heap.size w w' := by
  have KN := hide (note_any 3 5 la lc all (knW w) (by omega) (hr.below (knW_below w)))
  rw [hl] at KN
  clear hr hl
  go_enter Tryd.func41, Tryd.ntmps41
  go_wp2_with fail
  refine KN.out.mono ?_
  rintro e w4 ⟨a9, c9, rfl, ho4, hb4⟩
  obtain ⟨c0, c1, c2, f0, f1, f2⟩ := nb_later hb4
  have HO4 := hide ho4
  have HB4 := hide ((knW_below w).trans (hb4.mono (knW_below w).size))
  have hz : w.heap.size < (knW w).heap.size := by rw [knW_size]; omega
  have HZ := hide hz
  clear ho4 hb4 hz
  go_wp2_with fail
  exact bodyPost_ret (v := .agg #[.int .i64 3, .int .i64 5, .slice a9 ln c9]) (by simp [results, Tryd.results41, go_sem, c0, c1, c2]) rfl ⟨a9, c9, rfl, own_base (own_under (own_under (own_under HO4.out HZ.out _ _) HZ.out _ _) HZ.out _ _) (Nat.le_of_lt HZ.out), ((HB4.out.setCell (Nat.le_refl _) _).setCell (Nat.le_refl _) _).setCell (Nat.le_refl _) _⟩
set_option maxHeartbeats 3200000 in
theorem kn_fa6 (fl : Nat) (X : Nat) (da : Option Addr) (dn dc : Nat) (la : Option Addr) (ln lc : Nat) (all : List Nat) (w : World) (hf : fl < 256) (hl : all.length = ln) (hln : ln ≤ 60000) (hr : BRd w la all) (h1 : ((fl : Int) / 64 * 64 != 64) = true) :
    Calls Tryd.prog 41 #[.pointer (some ⟨X, 0, none⟩), .int .i64 (fl : Int), .int .i64 6, .slice da dn dc, .slice la ln lc] w fun e w' => ∃ a9 c9, e = .returned (.agg #[.int .i64 3, .int .i64 4, .slice a9 ln c9]) ∧ w'.ownsRow w.heap.size 5 1 (.slice a9 ln c9) ln (bcells all) ∧ Below w.heap.size w w' := by
  have KN := hide (note_any 3 4 la lc all (knW w) (by omega) (hr.below (knW_below w)))
  rw [hl] at KN
  clear hr hl
  go_enter Tryd.func41, Tryd.ntmps41
  go_wp2_with fail
  refine KN.out.mono ?_
  rintro e w4 ⟨a9, c9, rfl, ho4, hb4⟩
  obtain ⟨c0, c1, c2, f0, f1, f2⟩ := nb_later hb4
  have HO4 := hide ho4
  have HB4 := hide ((knW_below w).trans (hb4.mono (knW_below w).size))
  have hz : w.heap.size < (knW w).heap.size := by rw [knW_size]; omega
  have HZ := hide hz
  clear ho4 hb4 hz
  go_wp2_with fail
  exact bodyPost_ret (v := .agg #[.int .i64 3, .int .i64 4, .slice a9 ln c9]) (by simp [results, Tryd.results41, go_sem, c0, c1, c2]) rfl ⟨a9, c9, rfl, own_base (own_under (own_under (own_under HO4.out HZ.out _ _) HZ.out _ _) HZ.out _ _) (Nat.le_of_lt HZ.out), ((HB4.out.setCell (Nat.le_refl _) _).setCell (Nat.le_refl _) _).setCell (Nat.le_refl _) _⟩
set_option maxHeartbeats 3200000 in
theorem kn_fb6 (fl : Nat) (X : Nat) (da : Option Addr) (dn dc : Nat) (la : Option Addr) (ln lc : Nat) (all : List Nat) (w : World) (hf : fl < 256) (hl : all.length = ln) (hln : ln ≤ 60000) (hr : BRd w la all) (h1 : ((fl : Int) / 64 * 64 != 64) = false) (h2 : ((fl : Int) / 32 % 2 == 1) = true) :
    Calls Tryd.prog 41 #[.pointer (some ⟨X, 0, none⟩), .int .i64 (fl : Int), .int .i64 6, .slice da dn dc, .slice la ln lc] w fun e w' => ∃ a9 c9, e = .returned (.agg #[.int .i64 3, .int .i64 4, .slice a9 ln c9]) ∧ w'.ownsRow w.heap.size 5 1 (.slice a9 ln c9) ln (bcells all) ∧ Below w.heap.size w w' := by
  have KN := hide (note_any 3 4 la lc all (knW w) (by omega) (hr.below (knW_below w)))
  rw [hl] at KN
  clear hr hl
  go_enter Tryd.func41, Tryd.ntmps41
  go_wp2_with fail
  refine KN.out.mono ?_
  rintro e w4 ⟨a9, c9, rfl, ho4, hb4⟩
  obtain ⟨c0, c1, c2, f0, f1, f2⟩ := nb_later hb4
  have HO4 := hide ho4
  have HB4 := hide ((knW_below w).trans (hb4.mono (knW_below w).size))
  have hz : w.heap.size < (knW w).heap.size := by rw [knW_size]; omega
  have HZ := hide hz
  clear ho4 hb4 hz
  go_wp2_with fail
  exact bodyPost_ret (v := .agg #[.int .i64 3, .int .i64 4, .slice a9 ln c9]) (by simp [results, Tryd.results41, go_sem, c0, c1, c2]) rfl ⟨a9, c9, rfl, own_base (own_under (own_under (own_under HO4.out HZ.out _ _) HZ.out _ _) HZ.out _ _) (Nat.le_of_lt HZ.out), ((HB4.out.setCell (Nat.le_refl _) _).setCell (Nat.le_refl _) _).setCell (Nat.le_refl _) _⟩
set_option maxHeartbeats 3200000 in
theorem kn_s6 (fl : Nat) (X : Nat) (da : Option Addr) (dn dc : Nat) (la : Option Addr) (ln lc : Nat) (all : List Nat) (w : World) (hf : fl < 256) (hl : all.length = ln) (hln : ln ≤ 60000) (hr : BRd w la all) (h1 : ((fl : Int) / 64 * 64 != 64) = false) (h2 : ((fl : Int) / 32 % 2 == 1) = false) (h3 : ((dn : Int) != 0) = true) :
    Calls Tryd.prog 41 #[.pointer (some ⟨X, 0, none⟩), .int .i64 (fl : Int), .int .i64 6, .slice da dn dc, .slice la ln lc] w fun e w' => ∃ a9 c9, e = .returned (.agg #[.int .i64 3, .int .i64 5, .slice a9 ln c9]) ∧ w'.ownsRow w.heap.size 5 1 (.slice a9 ln c9) ln (bcells all) ∧ Below w.heap.size w w' := by
  have KN := hide (note_any 3 5 la lc all (knW w) (by omega) (hr.below (knW_below w)))
  rw [hl] at KN
  clear hr hl
  go_enter Tryd.func41, Tryd.ntmps41
  go_wp2_with fail
  refine KN.out.mono ?_
  rintro e w4 ⟨a9, c9, rfl, ho4, hb4⟩
  obtain ⟨c0, c1, c2, f0, f1, f2⟩ := nb_later hb4
  have HO4 := hide ho4
  have HB4 := hide ((knW_below w).trans (hb4.mono (knW_below w).size))
  have hz : w.heap.size < (knW w).heap.size := by rw [knW_size]; omega
  have HZ := hide hz
  clear ho4 hb4 hz
  go_wp2_with fail
  exact bodyPost_ret (v := .agg #[.int .i64 3, .int .i64 5, .slice a9 ln c9]) (by simp [results, Tryd.results41, go_sem, c0, c1, c2]) rfl ⟨a9, c9, rfl, own_base (own_under (own_under (own_under HO4.out HZ.out _ _) HZ.out _ _) HZ.out _ _) (Nat.le_of_lt HZ.out), ((HB4.out.setCell (Nat.le_refl _) _).setCell (Nat.le_refl _) _).setCell (Nat.le_refl _) _⟩
end Go.Proofs.YtempaadgheondaaDoor
/- The document's known: flags and lengths. -/
namespace Go.Proofs.YtempaadgheondaaDoor
open Go.RowKit
set_option maxRecDepth 100000

set_option maxHeartbeats 3200000 in
theorem kn_fa7 (fl : Nat) (X : Nat) (da : Option Addr) (dn dc : Nat) (la : Option Addr) (ln lc : Nat) (all : List Nat) (w : World) (hf : fl < 256) (hl : all.length = ln) (hln : ln ≤ 60000) (hr : BRd w la all) (h1 : ((fl : Int) / 64 * 64 != 192) = true) :
    Calls Tryd.prog 41 #[.pointer (some ⟨X, 0, none⟩), .int .i64 (fl : Int), .int .i64 7, .slice da dn dc, .slice la ln lc] w fun e w' => ∃ a9 c9, e = .returned (.agg #[.int .i64 3, .int .i64 4, .slice a9 ln c9]) ∧ w'.ownsRow w.heap.size 5 1 (.slice a9 ln c9) ln (bcells all) ∧ Below w.heap.size w w' := by
  have KN := hide (note_any 3 4 la lc all (knW w) (by omega) (hr.below (knW_below w)))
  rw [hl] at KN
  clear hr hl
  go_enter Tryd.func41, Tryd.ntmps41
  go_wp2_with fail
  refine KN.out.mono ?_
  rintro e w4 ⟨a9, c9, rfl, ho4, hb4⟩
  obtain ⟨c0, c1, c2, f0, f1, f2⟩ := nb_later hb4
  have HO4 := hide ho4
  have HB4 := hide ((knW_below w).trans (hb4.mono (knW_below w).size))
  have hz : w.heap.size < (knW w).heap.size := by rw [knW_size]; omega
  have HZ := hide hz
  clear ho4 hb4 hz
  go_wp2_with fail
  exact bodyPost_ret (v := .agg #[.int .i64 3, .int .i64 4, .slice a9 ln c9]) (by simp [results, Tryd.results41, go_sem, c0, c1, c2]) rfl ⟨a9, c9, rfl, own_base (own_under (own_under (own_under HO4.out HZ.out _ _) HZ.out _ _) HZ.out _ _) (Nat.le_of_lt HZ.out), ((HB4.out.setCell (Nat.le_refl _) _).setCell (Nat.le_refl _) _).setCell (Nat.le_refl _) _⟩
set_option maxHeartbeats 3200000 in
theorem kn_s7 (fl : Nat) (X : Nat) (da : Option Addr) (dn dc : Nat) (la : Option Addr) (ln lc : Nat) (all : List Nat) (w : World) (hf : fl < 256) (hl : all.length = ln) (hln : ln ≤ 60000) (hr : BRd w la all) (h1 : ((fl : Int) / 64 * 64 != 192) = false) (q : Bool) (h2 : ((fl : Int) / 32 % 2 == 1) = q) (h3 : ((dn : Int) != 8) = true) :
    Calls Tryd.prog 41 #[.pointer (some ⟨X, 0, none⟩), .int .i64 (fl : Int), .int .i64 7, .slice da dn dc, .slice la ln lc] w fun e w' => ∃ a9 c9, e = .returned (.agg #[.int .i64 3, .int .i64 5, .slice a9 ln c9]) ∧ w'.ownsRow w.heap.size 5 1 (.slice a9 ln c9) ln (bcells all) ∧ Below w.heap.size w w' := by
  have KN := hide (note_any 3 5 la lc all (knW w) (by omega) (hr.below (knW_below w)))
  rw [hl] at KN
  clear hr hl
  cases q
  · go_enter Tryd.func41, Tryd.ntmps41
    go_wp2_with fail
    refine KN.out.mono ?_
    rintro e w4 ⟨a9, c9, rfl, ho4, hb4⟩
    obtain ⟨c0, c1, c2, f0, f1, f2⟩ := nb_later hb4
    have HO4 := hide ho4
    have HB4 := hide ((knW_below w).trans (hb4.mono (knW_below w).size))
    have hz : w.heap.size < (knW w).heap.size := by rw [knW_size]; omega
    have HZ := hide hz
    clear ho4 hb4 hz
    go_wp2_with fail
    exact bodyPost_ret (v := .agg #[.int .i64 3, .int .i64 5, .slice a9 ln c9]) (by simp [results, Tryd.results41, go_sem, c0, c1, c2]) rfl ⟨a9, c9, rfl, own_base (own_under (own_under (own_under HO4.out HZ.out _ _) HZ.out _ _) HZ.out _ _) (Nat.le_of_lt HZ.out), ((HB4.out.setCell (Nat.le_refl _) _).setCell (Nat.le_refl _) _).setCell (Nat.le_refl _) _⟩
  · go_enter Tryd.func41, Tryd.ntmps41
    go_wp2_with fail
    refine KN.out.mono ?_
    rintro e w4 ⟨a9, c9, rfl, ho4, hb4⟩
    obtain ⟨c0, c1, c2, f0, f1, f2⟩ := nb_later hb4
    have HO4 := hide ho4
    have HB4 := hide ((knW_below w).trans (hb4.mono (knW_below w).size))
    have hz : w.heap.size < (knW w).heap.size := by rw [knW_size]; omega
    have HZ := hide hz
    clear ho4 hb4 hz
    go_wp2_with fail
    exact bodyPost_ret (v := .agg #[.int .i64 3, .int .i64 5, .slice a9 ln c9]) (by simp [results, Tryd.results41, go_sem, c0, c1, c2]) rfl ⟨a9, c9, rfl, own_base (own_under (own_under (own_under HO4.out HZ.out _ _) HZ.out _ _) HZ.out _ _) (Nat.le_of_lt HZ.out), ((HB4.out.setCell (Nat.le_refl _) _).setCell (Nat.le_refl _) _).setCell (Nat.le_refl _) _⟩
set_option maxHeartbeats 3200000 in
theorem kn_fa8 (fl : Nat) (X : Nat) (da : Option Addr) (dn dc : Nat) (la : Option Addr) (ln lc : Nat) (all : List Nat) (w : World) (hf : fl < 256) (hl : all.length = ln) (hln : ln ≤ 60000) (hr : BRd w la all) (h1 : ((fl : Int) / 64 * 64 != 192) = true) :
    Calls Tryd.prog 41 #[.pointer (some ⟨X, 0, none⟩), .int .i64 (fl : Int), .int .i64 8, .slice da dn dc, .slice la ln lc] w fun e w' => ∃ a9 c9, e = .returned (.agg #[.int .i64 3, .int .i64 4, .slice a9 ln c9]) ∧ w'.ownsRow w.heap.size 5 1 (.slice a9 ln c9) ln (bcells all) ∧ Below w.heap.size w w' := by
  have KN := hide (note_any 3 4 la lc all (knW w) (by omega) (hr.below (knW_below w)))
  rw [hl] at KN
  clear hr hl
  go_enter Tryd.func41, Tryd.ntmps41
  go_wp2_with fail
  refine KN.out.mono ?_
  rintro e w4 ⟨a9, c9, rfl, ho4, hb4⟩
  obtain ⟨c0, c1, c2, f0, f1, f2⟩ := nb_later hb4
  have HO4 := hide ho4
  have HB4 := hide ((knW_below w).trans (hb4.mono (knW_below w).size))
  have hz : w.heap.size < (knW w).heap.size := by rw [knW_size]; omega
  have HZ := hide hz
  clear ho4 hb4 hz
  go_wp2_with fail
  exact bodyPost_ret (v := .agg #[.int .i64 3, .int .i64 4, .slice a9 ln c9]) (by simp [results, Tryd.results41, go_sem, c0, c1, c2]) rfl ⟨a9, c9, rfl, own_base (own_under (own_under (own_under HO4.out HZ.out _ _) HZ.out _ _) HZ.out _ _) (Nat.le_of_lt HZ.out), ((HB4.out.setCell (Nat.le_refl _) _).setCell (Nat.le_refl _) _).setCell (Nat.le_refl _) _⟩
set_option maxHeartbeats 3200000 in
theorem kn_s8 (fl : Nat) (X : Nat) (da : Option Addr) (dn dc : Nat) (la : Option Addr) (ln lc : Nat) (all : List Nat) (w : World) (hf : fl < 256) (hl : all.length = ln) (hln : ln ≤ 60000) (hr : BRd w la all) (h1 : ((fl : Int) / 64 * 64 != 192) = false) (q : Bool) (h2 : ((fl : Int) / 32 % 2 == 1) = q) (h3 : ((dn : Int) == 0) = true) :
    Calls Tryd.prog 41 #[.pointer (some ⟨X, 0, none⟩), .int .i64 (fl : Int), .int .i64 8, .slice da dn dc, .slice la ln lc] w fun e w' => ∃ a9 c9, e = .returned (.agg #[.int .i64 3, .int .i64 5, .slice a9 ln c9]) ∧ w'.ownsRow w.heap.size 5 1 (.slice a9 ln c9) ln (bcells all) ∧ Below w.heap.size w w' := by
  have KN := hide (note_any 3 5 la lc all (knW w) (by omega) (hr.below (knW_below w)))
  rw [hl] at KN
  clear hr hl
  cases q
  · go_enter Tryd.func41, Tryd.ntmps41
    go_wp2_with fail
    refine KN.out.mono ?_
    rintro e w4 ⟨a9, c9, rfl, ho4, hb4⟩
    obtain ⟨c0, c1, c2, f0, f1, f2⟩ := nb_later hb4
    have HO4 := hide ho4
    have HB4 := hide ((knW_below w).trans (hb4.mono (knW_below w).size))
    have hz : w.heap.size < (knW w).heap.size := by rw [knW_size]; omega
    have HZ := hide hz
    clear ho4 hb4 hz
    go_wp2_with fail
    exact bodyPost_ret (v := .agg #[.int .i64 3, .int .i64 5, .slice a9 ln c9]) (by simp [results, Tryd.results41, go_sem, c0, c1, c2]) rfl ⟨a9, c9, rfl, own_base (own_under (own_under (own_under HO4.out HZ.out _ _) HZ.out _ _) HZ.out _ _) (Nat.le_of_lt HZ.out), ((HB4.out.setCell (Nat.le_refl _) _).setCell (Nat.le_refl _) _).setCell (Nat.le_refl _) _⟩
  · go_enter Tryd.func41, Tryd.ntmps41
    go_wp2_with fail
    refine KN.out.mono ?_
    rintro e w4 ⟨a9, c9, rfl, ho4, hb4⟩
    obtain ⟨c0, c1, c2, f0, f1, f2⟩ := nb_later hb4
    have HO4 := hide ho4
    have HB4 := hide ((knW_below w).trans (hb4.mono (knW_below w).size))
    have hz : w.heap.size < (knW w).heap.size := by rw [knW_size]; omega
    have HZ := hide hz
    clear ho4 hb4 hz
    go_wp2_with fail
    exact bodyPost_ret (v := .agg #[.int .i64 3, .int .i64 5, .slice a9 ln c9]) (by simp [results, Tryd.results41, go_sem, c0, c1, c2]) rfl ⟨a9, c9, rfl, own_base (own_under (own_under (own_under HO4.out HZ.out _ _) HZ.out _ _) HZ.out _ _) (Nat.le_of_lt HZ.out), ((HB4.out.setCell (Nat.le_refl _) _).setCell (Nat.le_refl _) _).setCell (Nat.le_refl _) _⟩
set_option maxHeartbeats 3200000 in
theorem kn_t8 (fl : Nat) (X : Nat) (da : Option Addr) (dn dc : Nat) (la : Option Addr) (ln lc : Nat) (all : List Nat) (w : World) (hf : fl < 256) (hl : all.length = ln) (hln : ln ≤ 60000) (hr : BRd w la all) (h1 : ((fl : Int) / 64 * 64 != 192) = false) (q : Bool) (h2 : ((fl : Int) / 32 % 2 == 1) = q) (h3 : ((dn : Int) == 0) = false) (h4 : ((dn : Int) % 4 != 0) = true) :
    Calls Tryd.prog 41 #[.pointer (some ⟨X, 0, none⟩), .int .i64 (fl : Int), .int .i64 8, .slice da dn dc, .slice la ln lc] w fun e w' => ∃ a9 c9, e = .returned (.agg #[.int .i64 3, .int .i64 5, .slice a9 ln c9]) ∧ w'.ownsRow w.heap.size 5 1 (.slice a9 ln c9) ln (bcells all) ∧ Below w.heap.size w w' := by
  have KN := hide (note_any 3 5 la lc all (knW w) (by omega) (hr.below (knW_below w)))
  rw [hl] at KN
  clear hr hl
  cases q
  · go_enter Tryd.func41, Tryd.ntmps41
    go_wp2_with fail
    refine KN.out.mono ?_
    rintro e w4 ⟨a9, c9, rfl, ho4, hb4⟩
    obtain ⟨c0, c1, c2, f0, f1, f2⟩ := nb_later hb4
    have HO4 := hide ho4
    have HB4 := hide ((knW_below w).trans (hb4.mono (knW_below w).size))
    have hz : w.heap.size < (knW w).heap.size := by rw [knW_size]; omega
    have HZ := hide hz
    clear ho4 hb4 hz
    go_wp2_with fail
    exact bodyPost_ret (v := .agg #[.int .i64 3, .int .i64 5, .slice a9 ln c9]) (by simp [results, Tryd.results41, go_sem, c0, c1, c2]) rfl ⟨a9, c9, rfl, own_base (own_under (own_under (own_under HO4.out HZ.out _ _) HZ.out _ _) HZ.out _ _) (Nat.le_of_lt HZ.out), ((HB4.out.setCell (Nat.le_refl _) _).setCell (Nat.le_refl _) _).setCell (Nat.le_refl _) _⟩
  · go_enter Tryd.func41, Tryd.ntmps41
    go_wp2_with fail
    refine KN.out.mono ?_
    rintro e w4 ⟨a9, c9, rfl, ho4, hb4⟩
    obtain ⟨c0, c1, c2, f0, f1, f2⟩ := nb_later hb4
    have HO4 := hide ho4
    have HB4 := hide ((knW_below w).trans (hb4.mono (knW_below w).size))
    have hz : w.heap.size < (knW w).heap.size := by rw [knW_size]; omega
    have HZ := hide hz
    clear ho4 hb4 hz
    go_wp2_with fail
    exact bodyPost_ret (v := .agg #[.int .i64 3, .int .i64 5, .slice a9 ln c9]) (by simp [results, Tryd.results41, go_sem, c0, c1, c2]) rfl ⟨a9, c9, rfl, own_base (own_under (own_under (own_under HO4.out HZ.out _ _) HZ.out _ _) HZ.out _ _) (Nat.le_of_lt HZ.out), ((HB4.out.setCell (Nat.le_refl _) _).setCell (Nat.le_refl _) _).setCell (Nat.le_refl _) _⟩
end Go.Proofs.YtempaadgheondaaDoor
