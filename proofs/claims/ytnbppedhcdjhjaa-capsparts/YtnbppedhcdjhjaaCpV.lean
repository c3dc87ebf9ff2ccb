/- The program's Decode. -/
import Derived.Test.YtnbppedhcdjhjaaCpU
import Derived.Laws.EntriesVeiled
namespace Go.Proofs.Ytnbppedhcdjhjaa
open Go.RowKit
set_option maxRecDepth 100000

/-- The box X of capabilities, and the two cells that lead to it. -/
structure Inv2 (X P Q : Nat) (c : Cp) (w : World) : Prop where
  box : CBox w X c
  ptr : w.cell? ⟨P, 0, none⟩ = some (.pointer (some ⟨X, 0, none⟩))
  fn : w.cell? ⟨Q, 0, none⟩ = some (.func (.func 29) #[] #[.pointer (some ⟨P, 0, none⟩)])
  hp : P ≠ X
  hq : Q ≠ X
theorem Inv2.later {X P Q : Nat} {c : Cp} {w w' : World} (h : Inv2 X P Q c w) (hb : Below w.heap.size w w') : Inv2 X P Q c w' := by
  have h1 := World.block_lt_of_cell? w _ h.ptr
  have h2 := World.block_lt_of_cell? w _ h.fn
  exact ⟨h.box.later hb, by rw [hb.cell (p := ⟨P, 0, none⟩) h1]; exact h.ptr, by rw [hb.cell (p := ⟨Q, 0, none⟩) h2]; exact h.fn, h.hp, h.hq⟩
theorem Inv2.keeps {X P Q : Nat} {c c' : Cp} {w w' : World} (h : Inv2 X P Q c w) (hk : Keeps (fun b => b = X) w w') (hx : CBox w' X c') : Inv2 X P Q c' w' := by
  have h1 := World.block_lt_of_cell? w _ h.ptr
  have h2 := World.block_lt_of_cell? w _ h.fn
  exact ⟨hx, by rw [hk.cell ⟨P, 0, none⟩ h1 h.hp]; exact h.ptr, by rw [hk.cell ⟨Q, 0, none⟩ h2 h.hq]; exact h.fn, h.hp, h.hq⟩
theorem inner_any (X P Q : Nat) (a : Option Addr) (cap : Nat) (bs : List Nat) (c : Cp) (w : World) (hl : bs.length ≤ 10000) (hcap : bs.length ≤ cap) (hr : BRd w a bs) (hF : ∀ x, a = some x → 0 < bs.length → x.block ≠ X) (hi : Inv2 X P Q c w) :
    Calls Try.prog 23 #[.slice a bs.length cap, .func (.func 29) #[] #[.pointer (some ⟨P, 0, none⟩)]] w fun e w' => TookI (Inv2 X P Q) (eachC readOne bs c) e w' ∧ Keeps (fun b => b = X) w w' :=
  each_inv readOne 29 #[.pointer (some ⟨P, 0, none⟩)] (Inv2 X P Q) (fun b => b = X) a cap bs c w hl hcap hr hF hi Try.call29 (fun _ _ _ h hb => h.later hb) (fun w1 c1 k a1 cap1 vs _ hi1 hr1 hx1 hv hc1 _ =>
    (take1_any X P c1 k a1 cap1 vs w1 hi1.ptr hi1.box hr1 hx1 (by omega) hc1).mono fun e w2 ⟨ht, hk⟩ => ⟨by
      cases h : readOne k vs c1 with
      | none => rw [h] at ht; exact ht
      | some c2 => rw [h] at ht; exact ⟨ht.1, hi1.keeps hk ht.2⟩, hk⟩)
theorem tooki_of {Inv : Cp → World → Prop} {r : Option Cp} {e : Ending} {w : World} (h : TookI Inv r e w) : ∃ z : Bool, e = .returned (.bool z) ∧ TookI Inv r (.returned (.bool z)) w := by
  cases r with
  | none => exact ⟨false, h, rfl⟩
  | some c => exact ⟨true, h.1, rfl, h.2⟩
set_option maxHeartbeats 1600000 in
theorem dec1_any (X P Q : Nat) (a : Option Addr) (cap : Nat) (bs : List Nat) (c : Cp) (k : Nat) (w : World) (hl : bs.length ≤ 10000) (hcap : bs.length ≤ cap) (hr : BRd w a bs) (hF : ∀ x, a = some x → 0 < bs.length → x.block ≠ X) (hi : Inv2 X P Q c w) :
    Calls Try.prog 24 #[.int .i64 (k : Int), .slice a bs.length cap, .pointer (some ⟨Q, 0, none⟩)] w fun e w' => TookI (Inv2 X P Q) (readPar k bs c) e w' ∧ Keeps (fun b => b = X) w w' := by
  have hq := hi.fn
  have hqs := World.block_lt_of_cell? w _ hq
  simp only at hqs
  have HI := hide (inner_any X P Q a cap bs c w hl hcap hr hF hi)
  by_cases h2 : k = 2
  · subst h2
    have HE : Hid (readPar 2 bs c = eachC readOne bs c) := rfl
    generalize readPar 2 bs c = rp at *
    generalize eachC readOne bs c = ro at *
    clear hr hF hi hl hcap
    generalize bs.length = n at *
    go_enter Try.func24, Try.ntmps24
    go_wp2_with fail
    refine HI.out.mono ?_
    rintro e w1 ⟨ht, hk⟩
    obtain ⟨z, rfl, ht⟩ := tooki_of ht
    have HT := hide ht
    have HK := hide hk
    clear ht hk
    go_wp2
    go_ret
    exact ⟨by rw [HE.out]; exact HT.out, HK.out⟩
  · have HE : Hid (readPar k bs c = none) := by show _ = _; unfold readPar; rw [if_neg h2]
    generalize readPar k bs c = rp at *
    clear hr hF hi hl hcap HI
    generalize bs.length = n at *
    have h2i : ((k : Int) == 2) = false := by simp; omega
    clear h2
    go_enter Try.func24, Try.ntmps24
    go_wp2
    go_ret
    exact ⟨by rw [HE.out]; rfl, Keeps.refl _ _⟩
theorem outer_any (X P Q : Nat) (a : Option Addr) (cap : Nat) (bs : List Nat) (c : Cp) (w : World) (hl : bs.length ≤ 10000) (hcap : bs.length ≤ cap) (hr : BRd w a bs) (hF : ∀ x, a = some x → 0 < bs.length → x.block ≠ X) (hi : Inv2 X P Q c w) :
    Calls Try.prog 23 #[.slice a bs.length cap, .func (.func 24) #[] #[.pointer (some ⟨Q, 0, none⟩)]] w fun e w' => TookI (Inv2 X P Q) (eachC readPar bs c) e w' ∧ Keeps (fun b => b = X) w w' :=
  each_inv readPar 24 #[.pointer (some ⟨Q, 0, none⟩)] (Inv2 X P Q) (fun b => b = X) a cap bs c w hl hcap hr hF hi Try.call24 (fun _ _ _ h hb => h.later hb) (fun w1 c1 k a1 cap1 vs _ hi1 hr1 hx1 hv hc1 _ =>
    dec1_any X P Q a1 cap1 vs c1 k w1 (by omega) hc1 hr1 hx1 hi1)
set_option maxHeartbeats 800000 in
theorem take_any (X : Nat) (w : World) : Calls Try.prog 22 #[.pointer (some ⟨X, 0, none⟩)] w fun e w' => e = .returned (.func (.func 29) #[] #[.pointer (some ⟨w.heap.size, 0, none⟩)]) ∧ w' = w.alloc (.cells #[.pointer (some ⟨X, 0, none⟩)] 41) := by
  go_enter Try.func22, Try.ntmps22
  go_wp2
  go_ret
  exact ⟨rfl, rfl⟩
end Go.Proofs.Ytnbppedhcdjhjaa
