/- The document's Rows: lists of rows of bytes. -/
import Derived.Test.YtbecchoidglaeaaRegC
namespace Go.Proofs.Ytbecchoidglaeaa
open Go.RowKit
set_option maxRecDepth 100000

theorem drewN_more (w : World) (a b : Nat) : (w.drewN a).drewN b = w.drewN (a + b) := by
  simp [World.drewN, Nat.add_assoc]
theorem drewN_zero (w : World) : w.drewN 0 = w := rfl
theorem cell_drewN (w : World) (m : Nat) (x : Addr) : (w.drewN m).cell? x = w.cell? x := World.cell?_of_block rfl
set_option maxHeartbeats 400000 in
theorem sameq_some (b1 o1 b2 o2 len c1 c2 : Nat) (f : Nat → Nat) (w : World) (hm : len ≤ maxLen)
    (h1 : ∀ i, i < len → w.cell? ⟨b1, o1 + i, none⟩ = some (.int .u8 (f i : Int))) (h2 : ∀ i, i < len → w.cell? ⟨b2, o2 + i, none⟩ = some (.int .u8 (f i : Int))) :
    Calls Try.prog 39 #[.slice (some ⟨b1, o1, none⟩) len c1, .slice (some ⟨b2, o2, none⟩) len c2] w fun e w' => e = .returned (.bool true) ∧ ∃ m, w' = w.drewN m := by
  unfold maxLen at hm
  have H1 := hide h1
  have H2 := hide h2
  clear h1 h2
  go_enter Try.func39, Try.ntmps39
  go_wp2
  go_loopw [5] (fun i wq => ∃ k m : Nat, k ≤ len ∧ i = .int .i64 k ∧ Hid (wq = w.drewN m)) (fun i _ => len - (intOf i).toNat)
  case atStart => exact ⟨0, 0, Nat.zero_le _, rfl, rfl⟩
  case round =>
    obtain ⟨k, m, hk, rfl, HW⟩ := hrel
    by_cases hlt : k < len
    · have c1 : wr.cell? ⟨b1, o1 + k, none⟩ = some (.int .u8 (f k : Int)) := by rw [HW.out, cell_drewN]; exact H1.out k hlt
      have c2 : wr.cell? ⟨b2, o2 + k, none⟩ = some (.int .u8 (f k : Int)) := by rw [HW.out, cell_drewN]; exact H2.out k hlt
      have hk0 : (0 : Int) ≤ (k : Int) := Int.natCast_nonneg _
      have hk1 : (k : Int) < (len : Int) := by omega
      go_wp2_with fail
      go_quiet (fail)
      go_wp2
      exact ⟨⟨k + 1, m + nq, by omega, by go_num, show wr.drewN nq = _ by rw [HW.out, drewN_more]⟩, by simp [intOf]; omega⟩
    · go_wp2
      go_ret
      exact ⟨rfl, m, HW.out⟩
set_option maxHeartbeats 400000 in
theorem sameq_empty (a1 a2 : Option Addr) (c1 c2 : Nat) (w : World) :
    Calls Try.prog 39 #[.slice a1 0 c1, .slice a2 0 c2] w fun e w' => e = .returned (.bool true) ∧ ∃ m, w' = w.drewN m := by
  go_enter Try.func39, Try.ntmps39
  go_wp2
  go_loopw [5] (fun i wq => i = .int .i64 0 ∧ wq = w) (fun i _ => 0 - (intOf i).toNat)
  case atStart => exact ⟨rfl, rfl⟩
  case round =>
    obtain ⟨rfl, rfl⟩ := hrel
    go_wp2
    go_ret
    exact ⟨rfl, 0, rfl⟩
theorem sameq_any (a1 a2 : Option Addr) (len c1 c2 : Nat) (f g : Nat → Nat) (w : World) (h1 : Rw w a1 len f) (h2 : Rw w a2 len g) (hfg : ∀ i, i < len → f i = g i) :
    Calls Try.prog 39 #[.slice a1 len c1, .slice a2 len c2] w fun e w' => e = .returned (.bool true) ∧ ∃ m, w' = w.drewN m := by
  by_cases h0 : len = 0
  · subst h0; exact sameq_empty a1 a2 c1 c2 w
  · obtain ⟨b1, o1, rfl, hc1⟩ := h1.2 (by omega)
    obtain ⟨b2, o2, rfl, hc2⟩ := (h2.congr (g := f) fun i hi => (hfg i hi).symm).2 (by omega)
    exact sameq_some b1 o1 b2 o2 len c1 c2 f w h1.1 hc1 hc2
/-- v is a list of n rows of bytes, row i the L i bytes G i. -/
def RowsRd (w : World) (v : Value) (n : Nat) (L : Nat → Nat) (G : Nat → Nat → Nat) : Prop :=
  ∃ a c, v = .slice a n c ∧ n ≤ 100000 ∧ (0 < n → ∃ g, a = some ⟨g, 0, none⟩ ∧ ∀ i, i < n → ∃ b d, w.cell? ⟨g, i, none⟩ = some (.slice b (L i) d) ∧ Rw w b (L i) (G i))
theorem RowsIn.rd {w : World} {B n : Nat} {v : Value} {L : Nat → Nat} {G : Nat → Nat → Nat} (h : RowsIn w B v n L G) (hn : n ≤ 100000) : RowsRd w v n L G := by
  obtain ⟨vs, ho, hp⟩ := h
  obtain ⟨a, c, rfl, _⟩ := own_of_none ho
  refine ⟨a, c, rfl, hn, fun h0 => ?_⟩
  rcases ho.2 with ⟨e, hz⟩ | ⟨g, cap, cur, e, _⟩
  · omega
  · injection e with e1 e2 e3
    subst e1 e3
    refine ⟨g, rfl, fun i hi => ?_⟩
    obtain ⟨b, d, h1, h2, _⟩ := hp i hi
    exact ⟨b, d, by rw [ho.cellAt i (by omega)]; exact h1, h2⟩
theorem RowsRd.below {w w' : World} {n : Nat} {v : Value} {L : Nat → Nat} {G : Nat → Nat → Nat} (h : RowsRd w v n L G) (hb : Below w.heap.size w w') : RowsRd w' v n L G := by
  obtain ⟨a, c, rfl, hn, hp⟩ := h
  refine ⟨a, c, rfl, hn, fun h0 => ?_⟩
  obtain ⟨g, rfl, hc⟩ := hp h0
  refine ⟨g, rfl, fun i hi => ?_⟩
  obtain ⟨b, d, h1, h2⟩ := hc i hi
  exact ⟨b, d, by rw [(Keeps.of_below hb (fun _ => False)).cell _ (World.block_lt_of_cell? w _ h1) (fun h => h)]; exact h1, h2.below hb⟩
theorem RowsRd.congr {w : World} {n : Nat} {v : Value} {L L' : Nat → Nat} {G G' : Nat → Nat → Nat} (h : RowsRd w v n L G) (hL : ∀ i, i < n → L i = L' i) (hG : ∀ i, i < n → ∀ j, j < L i → G i j = G' i j) : RowsRd w v n L' G' := by
  obtain ⟨a, c, rfl, hn, hp⟩ := h
  refine ⟨a, c, rfl, hn, fun h0 => ?_⟩
  obtain ⟨g, rfl, hc⟩ := hp h0
  refine ⟨g, rfl, fun i hi => ?_⟩
  obtain ⟨b, d, h1, h2⟩ := hc i hi
  rw [← hL i hi]
  exact ⟨b, d, h1, h2.congr (hG i hi)⟩
theorem RowsIn.keeps {w w' : World} {B n : Nat} {v : Value} {L : Nat → Nat} {G : Nat → Nat → Nat} (h : RowsIn w B v n L G) {F : Nat → Prop} (hk : Keeps F w w') (hF : ∀ b, F b → b < B) : RowsIn w' B v n L G := by
  obtain ⟨vs, ho, hp⟩ := h
  have hv : ∀ x, v.ownBlock = some x → B ≤ x := fun x e => by
    rcases ho.2 with ⟨rfl, _⟩ | ⟨g, cap, cur, rfl, hg, _⟩
    · simp [Value.ownBlock] at e
    · simp [Value.ownBlock] at e; omega
  refine ⟨vs, own_keeps ho hk (fun x e hf => by have := hv x e; have := hF x hf; omega), fun i hi => ?_⟩
  obtain ⟨a, c, h1, h2, h3⟩ := hp i hi
  exact ⟨a, c, h1, h2.keeps hk (fun x hx h0 hf => by have := (h3 h0 x hx).1; have := hF _ hf; omega), h3⟩
set_option maxHeartbeats 400000 in
theorem rows_unlike (a1 a2 : Option Addr) (n1 n2 c1 c2 : Nat) (w : World) (h : n1 ≠ n2) :
    Calls Try.prog 14 #[.slice a1 n1 c1, .slice a2 n2 c2] w fun e w' => e = .returned (.bool false) ∧ w' = w := by
  have e0 : ((n1 : Int) != (n2 : Int)) = true := by simp; omega
  clear h
  go_enter Try.func14, Try.ntmps14
  go_wp2
  go_ret
  exact ⟨rfl, rfl⟩
set_option maxHeartbeats 800000 in
theorem rows_same {w : World} {v1 v2 : Value} {n : Nat} {L : Nat → Nat} {G : Nat → Nat → Nat} (h1 : RowsRd w v1 n L G) (h2 : RowsRd w v2 n L G) :
    Calls Try.prog 14 #[v1, v2] w fun e w' => e = .returned (.bool true) ∧ ∃ m, w' = w.drewN m := by
  obtain ⟨a1, c1, rfl, hn, hp1⟩ := h1
  obtain ⟨a2, c2, rfl, _, hp2⟩ := h2
  have H1 := hide hp1
  have H2 := hide hp2
  have hn2 : (n : Int) ≤ 100000 := by omega
  clear hp1 hp2 hn
  go_enter Try.func14, Try.ntmps14
  go_wp2
  go_loopw [5] (fun i wq => ∃ k m : Nat, k ≤ n ∧ i = .int .i64 k ∧ Hid (wq = w.drewN m)) (fun i _ => n - (intOf i).toNat)
  case atStart => exact ⟨0, 0, Nat.zero_le _, rfl, rfl⟩
  case round =>
    obtain ⟨k, m, hk, rfl, HW⟩ := hrel
    by_cases hlt : k < n
    · obtain ⟨g1, rfl, hc1⟩ := H1.out (by omega)
      obtain ⟨g2, rfl, hc2⟩ := H2.out (by omega)
      obtain ⟨b1, d1, x1, r1⟩ := hc1 k hlt
      obtain ⟨b2, d2, x2, r2⟩ := hc2 k hlt
      have x1' : wr.cell? ⟨g1, k, none⟩ = some (.slice b1 (L k) d1) := by rw [HW.out, cell_drewN]; exact x1
      have x2' : wr.cell? ⟨g2, k, none⟩ = some (.slice b2 (L k) d2) := by rw [HW.out, cell_drewN]; exact x2
      have R1 := hide r1
      have R2 := hide r2
      have hk0 : (0 : Int) ≤ (k : Int) := Int.natCast_nonneg _
      have hk1 : (k : Int) < (n : Int) := by omega
      clear hc1 hc2 x1 x2 r1 r2
      have HS : Hid (∀ j, Calls Try.prog 39 #[.slice b1 (L k) d1, .slice b2 (L k) d2] (wr.drewN j) fun e w' => e = .returned (.bool true) ∧ ∃ m, w' = (wr.drewN j).drewN m) := fun j => by
        have hbl : Below w.heap.size w (wr.drewN j) := by rw [HW.out]; exact below_drewN (below_drewN (Below.refl _ _) m) j
        exact sameq_any b1 b2 (L k) d1 d2 (G k) (G k) _ (R1.out.below hbl) (R2.out.below hbl) (fun _ _ => rfl)
      go_wp2_with fail
      go_quiet ((go_at_call 39; refine Calls.quiet_of (HS.out _)))
      go_wp2
      exact ⟨⟨k + 1, m + nq, by omega, by go_num, show wr.drewN nq = _ by rw [HW.out, drewN_more]⟩, by simp [intOf]; omega⟩
    · go_wp2
      go_ret
      exact ⟨rfl, m, HW.out⟩
end Go.Proofs.Ytbecchoidglaeaa
