/- The program's handOn and Encode. -/
import Derived.Test.YtkmfnafecdfedaaGreatDoorHCe
namespace Go.Proofs.YtkmfnafecdfedaaGreatDoor
open Go.RowKit
set_option maxRecDepth 100000

/-- The bytes bs, under way: the box X holds their row, which lies from block B on. -/
structure ESt (w : World) (B X : Nat) (bs : List Nat) : Prop where
  row : ∃ a c, w.cell? ⟨X, 0, none⟩ = some (.slice a bs.length c) ∧ w.ownsRow B 5 1 (.slice a bs.length c) bs.length (bcells bs)
  free : w.frozen? ⟨X, 0, none⟩ = false
  lt : X < B
  le : B ≤ w.heap.size
theorem ESt.later {w w' : World} {B X : Nat} {bs : List Nat} (h : ESt w B X bs) (hb : Below w.heap.size w w') : ESt w' B X bs := by
  obtain ⟨a, c, h1, h2⟩ := h.row
  have hx : X < w.heap.size := Nat.lt_of_lt_of_le h.lt h.le
  exact ⟨⟨a, c, by rw [hb.cell (p := ⟨X, 0, none⟩) hx]; exact h1, own_later h2 hb⟩, by rw [hb.frozen (p := ⟨X, 0, none⟩) hx]; exact h.free, h.lt, Nat.le_trans h.le hb.size⟩
set_option maxHeartbeats 800000 in
theorem enc1_any (B X : Nat) (bs : List Nat) (k : Nat) (a : Option Addr) (c : Nat) (zs : List Nat) (w : World) (hk : k < 256) (hz : zs.length < 256) (hl : bs.length ≤ 1000) (hs : ESt w B X bs) (hr : BRd w a zs)
    (hap : ∀ x, a = some x → ∀ av cv, w.cell? ⟨X, 0, none⟩ = some (.slice av bs.length cv) → (Value.slice av bs.length cv).ownBlock ≠ some x.block) :
    Calls Tryz.prog 107 #[.int .i64 (k : Int), .slice a zs.length c, .pointer (some ⟨X, 0, none⟩)] w fun e w' => e = .returned (.tuple #[]) ∧ ESt w' B X (bs ++ tlv k zs) ∧ Keeps (fun b => b = X ∨ B ≤ b) w w' := by
  obtain ⟨av, cv, h1, h2⟩ := hs.row
  have hx : X < w.heap.size := Nat.lt_of_lt_of_le hs.lt hs.le
  have HT := hide (aptold_any B _ bs k a c zs w hk hz hl hs.le h2 hr (fun x e => hap x e av cv h1))
  have HS := hide hs
  have hfr := hs.free
  clear h2 hr hap hs
  generalize bs ++ tlv k zs = ys at *
  generalize zs.length = n at *
  generalize bs.length = m at *
  go_enter Tryz.func107, Tryz.ntmps107
  go_wp2_with fail
  refine HT.out.mono ?_
  rintro e w1 ⟨v1, rfl, ho1, hb1⟩
  obtain ⟨a1, c1, rfl⟩ := own_shape ho1
  have d1 : w1.cell? ⟨X, 0, none⟩ = some (.slice av m cv) := by rw [hb1.cell (p := ⟨X, 0, none⟩) HS.out.lt]; exact h1
  have d2 : w1.frozen? ⟨X, 0, none⟩ = false := by rw [hb1.frozen (p := ⟨X, 0, none⟩) HS.out.lt]; exact hfr
  have hx1 : X < w1.heap.size := Nat.lt_of_lt_of_le hx hb1.size
  have HO1 := hide ho1
  have HB1 := hide hb1
  clear ho1 hb1 h1 hfr
  go_wp2
  refine bodyPost_end (results_none rfl _ _ _) rfl ⟨rfl, ⟨⟨a1, c1, World.cell?_setCell_same _ _ _ d1, ?_⟩, ?_, HS.out.lt, ?_⟩, ?_⟩
  · refine own_grown HO1.out (row := some X) ?_ ?_
    · exact ⟨rfl, rfl, rfl, by simp, fun k _ hne => heap_setCell w1 X 0 _ k (fun e => hne (by rw [e]))⟩
    · intro b hb e
      have := (own_block HO1.out b hb).1
      have := HS.out.lt
      cases e
      omega
  · simp [go_sem, d2]
  · have := HB1.out.size
    have := HS.out.le
    simp only [World.size_setCell]
    omega
  · exact ((Keeps.refl (fun b => b = X ∨ B ≤ b) w).trans (G := fun b => b = X ∨ B ≤ b) ⟨HB1.out.os, HB1.out.tape, HB1.out.output, HB1.out.size, fun k _ hn => HB1.out.block k (by simp only [not_or] at hn; omega)⟩ (fun _ _ h => h)).setCell X 0 _ (.inl (.inl rfl))
/-- What stays of the box of capabilities that handOn has made. -/
def BoxC (w : World) (H : Nat) (c : Cp) : Prop := w.cell? ⟨H, 0, none⟩ = some (.bool c.four) ∧ w.cell? ⟨H, 1, none⟩ = some (.int .i64 c.as4) ∧ w.cell? ⟨H, 2, none⟩ = some (.bool c.gr) ∧ w.cell? ⟨H, 3, none⟩ = some (.bool c.rs) ∧ w.cell? ⟨H, 4, none⟩ = some (.int .i64 c.tm) ∧ w.cell? ⟨H, 5, none⟩ = some (.bool c.fam) ∧ w.cell? ⟨H, 6, none⟩ = some (.bool c.fwd) ∧ w.cell? ⟨H, 7, none⟩ = some (.bool c.ll) ∧ w.cell? ⟨H, 8, none⟩ = some (.int .i64 c.lt)
theorem BoxC.block {w w' : World} {H : Nat} {c : Cp} (h : BoxC w H c) (hb : w'.heap[H]? = w.heap[H]?) : BoxC w' H c := by
  have k : ∀ j, w'.cell? ⟨H, j, none⟩ = w.cell? ⟨H, j, none⟩ := fun j => World.cell?_of_block hb
  unfold BoxC at *
  simp only [k]
  exact h
theorem BoxC.size {w : World} {H : Nat} {c : Cp} (h : BoxC w H c) : H < w.heap.size := by
  have := World.block_lt_of_cell? w _ h.1
  simpa using this
theorem BoxC.new (w : World) (c : Cp) : BoxC (w.alloc (.cells (capC c) 26)) w.heap.size c := by
  unfold BoxC capC
  refine ⟨?_, ?_, ?_, ?_, ?_, ?_, ?_, ?_, ?_⟩ <;> simp [go_sem]
/-- A value's row, and what is told of it. -/
theorem tell_any {B X H : Nat} {bs : List Nat} {c : Cp} {w w1 : World} (hs : ESt w B X bs) (hbx : BoxC w H c) (hHB : H < B) (hHX : H ≠ X) (k : Nat) (zs : List Nat) (hk : k < 256) (hz : zs.length < 256) (hl : bs.length ≤ 1000) (hzs : ∀ x ∈ zs, x < 256) (v : Value) (ho : w1.ownsRow w.heap.size 5 1 v zs.length (bcells zs)) (hb : Below w.heap.size w w1) :
    ∃ a cc, v = .slice a zs.length cc ∧ Calls Tryz.prog 107 #[.int .i64 (k : Int), .slice a zs.length cc, .pointer (some ⟨X, 0, none⟩)] w1 fun e w' => e = .returned (.tuple #[]) ∧ ESt w' B X (bs ++ tlv k zs) ∧ BoxC w' H c ∧ Keeps (fun b => b = X ∨ B ≤ b) w w' := by
  obtain ⟨a, cc, rfl, _, hr⟩ := own_brd ho (by omega) hzs
  have hs1 := hs.later hb
  obtain ⟨av0, cv0, e1, e2⟩ := hs.row
  refine ⟨a, cc, rfl, (enc1_any B X bs k a cc zs w1 hk hz hl hs1 hr (fun x hx av cv he e => ?_)).mono fun e w' ⟨h1, h2, h3⟩ => ⟨h1, h2, ?_, ?_⟩⟩
  · subst hx
    have hlt := hb.cell (p := ⟨X, 0, none⟩) (Nat.lt_of_lt_of_le hs.lt hs.le)
    rw [hlt, e1] at he
    simp only [Option.some.injEq, Value.slice.injEq] at he
    obtain ⟨rfl, _, rfl⟩ := he
    have h5 := (own_block e2 _ e).2
    rcases ho.2 with ⟨h6, _⟩ | ⟨g, cap, cur, h6, hg, _⟩
    · cases h6
    · simp only [Value.slice.injEq, Option.some.injEq] at h6
      rw [h6.1] at h5
      simp only at h5
      omega
  · have hH : H < w.heap.size := hbx.size
    refine hbx.block ?_
    rw [h3.block H (Nat.lt_of_lt_of_le hH hb.size) (fun h => by rcases h with h | h; exact hHX h; omega), hb.block H hH]
  · exact (Keeps.of_below hb _).trans h3 (fun _ _ h => h)
end Go.Proofs.YtkmfnafecdfedaaGreatDoor
