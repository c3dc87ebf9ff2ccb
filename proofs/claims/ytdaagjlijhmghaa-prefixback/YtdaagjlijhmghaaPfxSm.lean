/- The document's SamePrefixes, Same; ReadPrefixes of any bytes. -/
import Derived.Test.YtdaagjlijhmghaaPfxNu
import Derived.Test.YtdaagjlijhmghaaPfxRf
namespace Go.Proofs.Ytdaagjlijhmghaa
open Go.RowKit
set_option maxRecDepth 100000

set_option maxHeartbeats 400000 in
theorem read_empty (a : Option Addr) (cap : Nat) (f : Nat → Nat) (w : World) :
    Calls Try.prog 21 #[.slice a 0 cap] w fun e w' => DecRes w w' (decRun f 0 0 []) e ∧ Below w.heap.size w w' := by
  have HN : Hid (decRun f 0 0 [] = some []) := decRun_end (by omega)
  go_enter Try.func21, Try.ntmps21
  go_wp2
  go_loopw [4, 5] (fun v s wq => v = .slice none 0 0 ∧ s = .int .i64 0 ∧ wq = w) (fun _ s _ => 0 - (intOf s).toNat)
  case atStart => exact ⟨rfl, rfl, rfl⟩
  case round =>
    obtain ⟨rfl, rfl, rfl⟩ := hrel
    go_wp2
    go_ret2
    exact ⟨by rw [HN.out]; exact ⟨_, rfl, own_nil _ _ _ _⟩, Below.refl _ _⟩
theorem read_any (a : Option Addr) (len cap : Nat) (f : Nat → Nat) (w : World) (hl : len ≤ 100000) (hlc : len ≤ cap) (hf : ∀ j, j < len → f j < 256) (h : Rw w a len f) :
    Calls Try.prog 21 #[.slice a len cap] w fun e w' => DecRes w w' (decRun f len 0 []) e ∧ Below w.heap.size w w' := by
  by_cases h0 : len = 0
  · subst h0; exact read_empty a cap f w
  · obtain ⟨b, off, rfl, hc⟩ := h.2 (by omega)
    exact read_some b off len cap f w hl hlc hf hc
/-- Two rows whose cells are the same. -/
theorem pcells_get (ps : List (Nat × Nat)) : ∀ (i : Nat) (p : Nat × Nat), ps[i]? = some p → (pcells ps)[i * 2]? = some (.int .u32 (p.1 : Int)) ∧ (pcells ps)[i * 2 + 1]? = some (.int .i64 (p.2 : Int)) := by
  induction ps with
  | nil => intro i p h; simp at h
  | cons a l ih =>
    intro i p h
    cases i with
    | zero => simp at h; subst h; exact ⟨rfl, rfl⟩
    | succ i =>
      have := ih i p (by simpa using h)
      rw [show (i + 1) * 2 = i * 2 + 1 + 1 from by omega]
      simpa [pcells] using this
set_option maxHeartbeats 800000 in
theorem samep_some (g1 g2 n c1 c2 : Nat) (A : Nat → Nat) (N : Nat → Nat) (w : World) (hn : n ≤ 100000)
    (h1 : ∀ i, i < n → w.cell? ⟨g1, 0 + i * 2, none⟩ = some (.int .u32 (A i : Int)) ∧ w.cell? ⟨g1, 0 + i * 2 + 1, none⟩ = some (.int .i64 (N i : Int)))
    (h2 : ∀ i, i < n → w.cell? ⟨g2, 0 + i * 2, none⟩ = some (.int .u32 (A i : Int)) ∧ w.cell? ⟨g2, 0 + i * 2 + 1, none⟩ = some (.int .i64 (N i : Int))) :
    Calls Try.prog 20 #[.slice (some ⟨g1, 0, none⟩) n c1, .slice (some ⟨g2, 0, none⟩) n c2] w fun e w' => e = .returned (.bool true) ∧ ∃ m, w' = w.drewN m := by
  have H1 := hide h1
  have H2 := hide h2
  clear h1 h2
  go_enter Try.func20, Try.ntmps20
  go_wp2
  go_loopw [5] (fun i wq => ∃ k m : Nat, k ≤ n ∧ i = .int .i64 k ∧ Hid (wq = w.drewN m)) (fun i _ => n - (intOf i).toNat)
  case atStart => exact ⟨0, 0, Nat.zero_le _, rfl, rfl⟩
  case round =>
    obtain ⟨k, m, hk, rfl, HW⟩ := hrel
    by_cases hlt : k < n
    · have a0 : wr.cell? ⟨g1, k * 2, none⟩ = some (.int .u32 (A k : Int)) := by rw [HW.out, cell_drewN]; have := (H1.out k hlt).1; rwa [Nat.zero_add] at this
      have a1 : wr.cell? ⟨g1, k * 2 + 1, none⟩ = some (.int .i64 (N k : Int)) := by rw [HW.out, cell_drewN]; have := (H1.out k hlt).2; rwa [Nat.zero_add] at this
      have b0 : wr.cell? ⟨g2, k * 2, none⟩ = some (.int .u32 (A k : Int)) := by rw [HW.out, cell_drewN]; have := (H2.out k hlt).1; rwa [Nat.zero_add] at this
      have b1 : wr.cell? ⟨g2, k * 2 + 1, none⟩ = some (.int .i64 (N k : Int)) := by rw [HW.out, cell_drewN]; have := (H2.out k hlt).2; rwa [Nat.zero_add] at this
      have hk0 : (0 : Int) ≤ (k : Int) := Int.natCast_nonneg _
      have hk1 : (k : Int) < (n : Int) := by omega
      generalize A k = x at *
      generalize N k = y at *
      go_wp2_with fail
      go_quiet (fail)
      go_wp2
      exact ⟨⟨k + 1, m + nq, by omega, by go_num, show wr.drewN nq = _ by rw [HW.out, drewN_more]⟩, by simp [intOf]; omega⟩
    · go_wp2
      go_ret
      exact ⟨rfl, m, HW.out⟩
set_option maxHeartbeats 400000 in
theorem samep_empty (a1 a2 : Option Addr) (c1 c2 : Nat) (w : World) :
    Calls Try.prog 20 #[.slice a1 0 c1, .slice a2 0 c2] w fun e w' => e = .returned (.bool true) ∧ ∃ m, w' = w.drewN m := by
  go_enter Try.func20, Try.ntmps20
  go_wp2
  go_loopw [5] (fun i wq => i = .int .i64 0 ∧ wq = w) (fun i _ => 0 - (intOf i).toNat)
  case atStart => exact ⟨rfl, rfl⟩
  case round =>
    obtain ⟨rfl, rfl⟩ := hrel
    go_wp2
    go_ret
    exact ⟨rfl, 0, rfl⟩
theorem own_shape {w : World} {B e size n : Nat} {v : Value} {xs : List Value} (h : w.ownsRow B e size v n xs) : ∃ a c, v = .slice a n c := by
  rcases h.2 with ⟨rfl, rfl⟩ | ⟨g, cap, cur, rfl, _⟩
  · exact ⟨_, _, rfl⟩
  · exact ⟨_, _, rfl⟩
/-- Two lists of the same prefixes. -/
theorem samep_any {w : World} {B1 B2 : Nat} {v1 v2 : Value} {ps : List (Nat × Nat)} (h1 : w.ownsRow B1 24 2 v1 ps.length (pcells ps)) (h2 : w.ownsRow B2 24 2 v2 ps.length (pcells ps)) (hl : ps.length ≤ 100000) :
    Calls Try.prog 20 #[v1, v2] w fun e w' => e = .returned (.bool true) ∧ ∃ m, w' = w.drewN m := by
  by_cases h0 : ps.length = 0
  · obtain ⟨a1, c1, rfl⟩ := own_shape h1
    obtain ⟨a2, c2, rfl⟩ := own_shape h2
    rw [h0]
    exact samep_empty a1 a2 c1 c2 w
  · obtain ⟨g1, c1, rfl, _, _⟩ := h1.form (by omega)
    obtain ⟨g2, c2, rfl, _, _⟩ := h2.form (by omega)
    refine samep_some g1 g2 ps.length c1 c2 (fun i => (ps.getD i (0, 0)).1) (fun i => (ps.getD i (0, 0)).2) w hl (fun i hi => ?_) (fun i hi => ?_)
    · have e : ps[i]? = some (ps.getD i (0, 0)) := by simp [List.getD_eq_getElem?_getD, hi]
      obtain ⟨x, y⟩ := pcells_get ps i _ e
      rw [Nat.zero_add, h1.cellAt (i * 2) (by omega), h1.cellAt (i * 2 + 1) (by omega)]
      exact ⟨x, y⟩
    · have e : ps[i]? = some (ps.getD i (0, 0)) := by simp [List.getD_eq_getElem?_getD, hi]
      obtain ⟨x, y⟩ := pcells_get ps i _ e
      rw [Nat.zero_add, h2.cellAt (i * 2) (by omega), h2.cellAt (i * 2 + 1) (by omega)]
      exact ⟨x, y⟩
set_option maxHeartbeats 400000 in
theorem sameq_some (b1 o1 b2 o2 len c1 c2 : Nat) (f : Nat → Nat) (w : World) (hm : len ≤ 1000000)
    (h1 : ∀ i, i < len → w.cell? ⟨b1, o1 + i, none⟩ = some (.int .u8 (f i : Int))) (h2 : ∀ i, i < len → w.cell? ⟨b2, o2 + i, none⟩ = some (.int .u8 (f i : Int))) :
    Calls Try.prog 18 #[.slice (some ⟨b1, o1, none⟩) len c1, .slice (some ⟨b2, o2, none⟩) len c2] w fun e w' => e = .returned (.bool true) ∧ ∃ m, w' = w.drewN m := by
  have H1 := hide h1
  have H2 := hide h2
  clear h1 h2
  go_enter Try.func18, Try.ntmps18
  go_wp2
  go_loopw [5] (fun i wq => ∃ k m : Nat, k ≤ len ∧ i = .int .i64 k ∧ Hid (wq = w.drewN m)) (fun i _ => len - (intOf i).toNat)
  case atStart => exact ⟨0, 0, Nat.zero_le _, rfl, rfl⟩
  case round =>
    obtain ⟨k, m, hk, rfl, HW⟩ := hrel
    by_cases hlt : k < len
    · have c1 : wr.cell? ⟨b1, o1 + k, none⟩ = some (.int .u8 (f k : Int)) := by rw [HW.out, cell_drewN]; exact H1.out k hlt
      have c2 : wr.cell? ⟨b2, o2 + k, none⟩ = some (.int .u8 (f k : Int)) := by rw [HW.out, cell_drewN]; exact H2.out k hlt
      have hk0 : (0 : Int) ≤ (k : Int) := Int.natCast_nonneg _
      have hk1 : (k : Int) < (len : Int) := by omega
      go_wp2_with fail
      go_quiet (fail)
      go_wp2
      exact ⟨⟨k + 1, m + nq, by omega, by go_num, show wr.drewN nq = _ by rw [HW.out, drewN_more]⟩, by simp [intOf]; omega⟩
    · go_wp2
      go_ret
      exact ⟨rfl, m, HW.out⟩
set_option maxHeartbeats 400000 in
theorem sameq_empty (a1 a2 : Option Addr) (c1 c2 : Nat) (w : World) :
    Calls Try.prog 18 #[.slice a1 0 c1, .slice a2 0 c2] w fun e w' => e = .returned (.bool true) ∧ ∃ m, w' = w.drewN m := by
  go_enter Try.func18, Try.ntmps18
  go_wp2
  go_loopw [5] (fun i wq => i = .int .i64 0 ∧ wq = w) (fun i _ => 0 - (intOf i).toNat)
  case atStart => exact ⟨rfl, rfl⟩
  case round =>
    obtain ⟨rfl, rfl⟩ := hrel
    go_wp2
    go_ret
    exact ⟨rfl, 0, rfl⟩
/-- Two rows of the same bytes. -/
theorem sameb_any {w : World} {B1 B2 : Nat} {v1 v2 : Value} {bs : List Nat} (h1 : w.ownsRow B1 5 1 v1 bs.length (bcells bs)) (h2 : w.ownsRow B2 5 1 v2 bs.length (bcells bs)) (hl : bs.length ≤ 100000) :
    Calls Try.prog 18 #[v1, v2] w fun e w' => e = .returned (.bool true) ∧ ∃ m, w' = w.drewN m := by
  by_cases h0 : bs.length = 0
  · obtain ⟨a1, c1, rfl⟩ := own_shape h1
    obtain ⟨a2, c2, rfl⟩ := own_shape h2
    rw [h0]
    exact sameq_empty a1 a2 c1 c2 w
  · obtain ⟨g1, c1, rfl, _, _⟩ := h1.form (by omega)
    obtain ⟨g2, c2, rfl, _, _⟩ := h2.form (by omega)
    have e : ∀ i, i < bs.length → (bcells bs)[i]? = some (.int .u8 (bs.getD i 0 : Int)) := fun i hi => by simp [bcells, List.getD_eq_getElem?_getD, hi]
    exact sameq_some g1 0 g2 0 bs.length c1 c2 (fun i => bs.getD i 0) w (by omega) (fun i hi => by rw [Nat.zero_add, h1.cellAt i (by omega)]; exact e i hi) (fun i hi => by rw [Nat.zero_add, h2.cellAt i (by omega)]; exact e i hi)
end Go.Proofs.Ytdaagjlijhmghaa
