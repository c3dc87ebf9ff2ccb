/- The program's readLL, and what takes a capability. -/
import Derived.Test.YtnbppedhcdjhjaaCpS
namespace Go.Proofs.Ytnbppedhcdjhjaa
open Go.RowKit
set_option maxRecDepth 100000

theorem ll_box {w : World} {X : Nat} {c : Cp} (h : CBox w X c) (ll : Bool) (lt : Int) : CBox ((w.setCell ⟨X, 7, none⟩ (.bool ll)).setCell ⟨X, 8, none⟩ (.int .i64 lt)) X { c with ll := ll, lt := lt } := by
  obtain ⟨x0, x1, x2, x3, x4, x5, x6, x7, x8⟩ := h.cells
  have k : ∀ j v, w.cell? ⟨X, j, none⟩ = some v → ((w.setCell ⟨X, 7, none⟩ (.bool ll)).setCell ⟨X, 8, none⟩ (.int .i64 lt)).cell? ⟨X, j, none⟩ = some (if 8 = j then .int .i64 lt else if 7 = j then .bool ll else v) := fun j v h => box_set _ X 8 _ j _ (box_set _ X 7 _ j _ h)
  exact ⟨⟨k 0 _ x0, k 1 _ x1, k 2 _ x2, k 3 _ x3, k 4 _ x4, k 5 _ x5, k 6 _ x6, k 7 _ x7, k 8 _ x8⟩, fun j => by rw [World.frozen?_setCell, World.frozen?_setCell]; exact h.free j⟩
theorem lt_box {w : World} {X : Nat} {c : Cp} (h : CBox w X c) (lt : Int) : CBox (w.setCell ⟨X, 8, none⟩ (.int .i64 lt)) X { c with lt := lt } := by
  obtain ⟨x0, x1, x2, x3, x4, x5, x6, x7, x8⟩ := h.cells
  have k : ∀ j v, w.cell? ⟨X, j, none⟩ = some v → (w.setCell ⟨X, 8, none⟩ (.int .i64 lt)).cell? ⟨X, j, none⟩ = some (if 8 = j then .int .i64 lt else v) := fun j v h => box_set _ X 8 _ j _ h
  exact ⟨⟨k 0 _ x0, k 1 _ x1, k 2 _ x2, k 3 _ x3, k 4 _ x4, k 5 _ x5, k 6 _ x6, k 7 _ x7, k 8 _ x8⟩, fun j => by rw [World.frozen?_setCell]; exact h.free j⟩
theorem numB_three {u : List Nat} (h : u.length = 7) : numB (u.drop 4) = ltOf (some u) := by
  match u, h with
  | [a0, a1, a2, a3, a4, a5, a6], _ =>
    simp only [ltOf, List.drop_succ_cons, List.drop_zero, numB, List.foldl_cons, List.foldl_nil, List.getD_cons_succ, List.getD_cons_zero]
    omega
set_option maxHeartbeats 1600000 in
theorem rll_bad (X : Nat) (a : Option Addr) (n cap : Nat) (w : World) (h : n % 7 ≠ 0) (hl : n ≤ 10000) : Calls Try.prog 32 #[.pointer (some ⟨X, 0, none⟩), .slice a n cap] w fun e w' => e = .returned (.bool false) ∧ w' = w := by
  have hm : ((n : Int) % 7 != 0) = true := by
    simp
    omega
  clear h
  go_enter Try.func32, Try.ntmps32
  go_wp2
  go_ret
  exact ⟨rfl, rfl⟩
set_option maxHeartbeats 3200000 in
theorem rll_good (X : Nat) (c : Cp) (a : Option Addr) (cap : Nat) (bs : List Nat) (w : World) (hx : CBox w X c) (hr : BRd w a bs) (hne : ∀ x, a = some x → 0 < bs.length → x.block ≠ X) (hl : bs.length ≤ 10000) (hcap : bs.length ≤ cap) (h : bs.length % 7 = 0) :
    Calls Try.prog 32 #[.pointer (some ⟨X, 0, none⟩), .slice a bs.length cap] w fun e w' => Took X (some (putLL bs c)) e w' ∧ Keeps (fun b => b = X) w w' := by
  have HF := hide (fstu_any X a cap bs 7 w (by omega) (by omega) hl hcap hr hne)
  have HP : Hid (∀ ll lt, ll = (fstU 7 bs).isSome → lt = (ltOf (fstU 7 bs) : Int) → ({ c with ll := ll, lt := lt } : Cp) = putLL bs c) := fun ll lt h1 h2 => by
    subst h1 h2
    rfl
  have HX := hide hx
  have hXs := hx.size
  obtain ⟨x0, x1, x2, x3, x4, x5, x6, x7, x8⟩ := hx.cells
  have f7 := hx.free 7
  have f8 := hx.free 8
  generalize putLL bs c = pc at *
  generalize fstU 7 bs = fu at *
  have hmi : ((bs.length : Int) % 7 != 0) = false := by simp; omega
  clear hne hr hx h
  generalize bs.length = n at *
  obtain ⟨four, as4, gr, rs, tm, fam, fwd, ll, lt⟩ := c
  simp only at *
  go_enter Try.func32, Try.ntmps32
  go_wp2_with fail
  refine HF.out.mono ?_
  rintro e w1 ⟨hu, rfl⟩
  have HK := hide (((Keeps.refl (fun b => b = X) w1).setCell X 7 (.bool fu.isSome) (.inl rfl)).setCell X 8 (.int .i64 0) (.inl rfl))
  have HB := hide (ll_box HX.out fu.isSome 0)
  cases fu with
  | none =>
    obtain rfl : e = _ := hu
    have HQ := hide (HP.out false 0 rfl rfl)
    go_wp2
    go_ret
    refine ⟨took_go rfl ?_, HK.out⟩
    rw [← HQ.out]; exact HB.out
  | some u =>
    obtain ⟨b2, o2, k2, rfl, hb2, hk2, hu7, hu256, hcu⟩ := hu
    have HQ := hide (HP.out true (ltOf (some u) : Int) rfl rfl)
    have HN : Hid (Calls Try.prog 34 #[.slice (some ⟨b2, o2 + 4, none⟩) 3 (k2 - 4)] ((w1.setCell ⟨X, 7, none⟩ (.bool true)).setCell ⟨X, 8, none⟩ (.int .i64 0)) fun e w' => e = .returned (.int .i64 (numB (u.drop 4) : Int)) ∧ w' = (w1.setCell ⟨X, 7, none⟩ (.bool true)).setCell ⟨X, 8, none⟩ (.int .i64 0)) :=
      numof_any b2 (o2 + 4) 3 (k2 - 4) (u.drop 4) _ (by rw [List.length_drop]; omega) (by omega) (fun x hx => hu256 x (List.mem_of_mem_drop hx)) (fun i hi => by
        have h9 := hcu (4 + i) (by omega)
        rw [World.cell?_setCell_other _ _ _ _ (by intro e9; injection e9 with e2 _ _; exact hb2 e2.symm), World.cell?_setCell_other _ _ _ _ (by intro e9; injection e9 with e2 _ _; exact hb2 e2.symm), Nat.add_assoc, h9, List.getD_eq_getElem?_getD, List.getD_eq_getElem?_getD, List.getElem?_drop])
    rw [numB_three hu7] at HN
    have hk4 : ¬ k2 = 4 := by omega
    have hk7 : (7 : Int) ≤ (k2 : Int) := by omega
    rw [show (some u).isSome = true from rfl] at HB HK
    have HB3 := hide (lt_box HB.out (ltOf (some u) : Int))
    generalize ltOf (some u) = L at *
    clear hu256 hcu hu7
    go_wp2_with fail
    refine HN.out.mono ?_
    rintro e w2 ⟨rfl, hw2⟩
    rw [← hw2] at HB3
    have HK2 : Hid (Keeps (fun b => b = X) w1 w2) := by rw [hw2]; exact HK.out
    have HB2 : Hid (CBox w2 X { four := four, as4 := as4, gr := gr, rs := rs, tm := tm, fam := fam, fwd := fwd, ll := true, lt := 0 }) := by rw [hw2]; exact HB.out
    clear hw2 x0 x1 x2 x3 x4 x5 x6 x7 x8 f7 f8
    obtain ⟨x0, x1, x2, x3, x4, x5, x6, x7, x8⟩ := HB2.out.cells
    have f8 := HB2.out.free 8
    have hXs2 := HB2.out.size
    simp only at x0 x1 x2 x3 x4 x5 x6 x7 x8
    go_wp2
    go_ret
    refine ⟨took_go rfl ?_, HK2.out.setCell X 8 _ (.inl rfl)⟩
    rw [← HQ.out]; exact HB3.out
theorem rll_any (X : Nat) (c : Cp) (a : Option Addr) (cap : Nat) (bs : List Nat) (w : World) (hx : CBox w X c) (hr : BRd w a bs) (hne : ∀ x, a = some x → 0 < bs.length → x.block ≠ X) (hl : bs.length ≤ 10000) (hcap : bs.length ≤ cap) :
    Calls Try.prog 32 #[.pointer (some ⟨X, 0, none⟩), .slice a bs.length cap] w fun e w' => Took X (readOne 71 bs c) e w' ∧ Keeps (fun b => b = X) w w' := by
  have e71 : readOne 71 bs c = if bs.length % 7 = 0 then some (putLL bs c) else none := by unfold readOne; rw [if_neg (by omega), if_neg (by omega), if_pos rfl]
  rw [e71]
  by_cases h : bs.length % 7 = 0
  · rw [if_pos h]; exact rll_good X c a cap bs w hx hr hne hl hcap h
  · rw [if_neg h]
    refine (rll_bad X a bs.length cap w h hl).mono fun e w' ⟨h1, h2⟩ => ⟨?_, by rw [h2]; exact Keeps.refl _ _⟩
    rw [h1]; rfl
/-- A closure's answer: what reading answered. -/
theorem took_of {X : Nat} {r : Option Cp} {e : Ending} {w : World} (h : Took X r e w) : ∃ z : Bool, e = .returned (.bool z) ∧ Took X r (.returned (.bool z)) w := by
  cases r with
  | none => exact ⟨false, h, rfl⟩
  | some c => exact ⟨true, h.1, rfl, h.2⟩
set_option maxHeartbeats 1600000 in
theorem take1_any (X P : Nat) (c : Cp) (k : Nat) (a : Option Addr) (cap : Nat) (bs : List Nat) (w : World) (hp : w.cell? ⟨P, 0, none⟩ = some (.pointer (some ⟨X, 0, none⟩))) (hx : CBox w X c) (hr : BRd w a bs) (hne : ∀ x, a = some x → 0 < bs.length → x.block ≠ X) (hl : bs.length ≤ 10000) (hcap : bs.length ≤ cap) :
    Calls Try.prog 29 #[.int .i64 (k : Int), .slice a bs.length cap, .pointer (some ⟨P, 0, none⟩)] w fun e w' => Took X (readOne k bs c) e w' ∧ Keeps (fun b => b = X) w w' := by
  have hP := World.block_lt_of_cell? w _ hp
  simp only at hP
  have H65 := hide (rfour_any X c a cap bs w hx hr)
  have H64 := hide (rgr_any X c a cap bs w hx hr hne hl hcap)
  have H71 := hide (rll_any X c a cap bs w hx hr hne hl hcap)
  have HE : Hid (¬ k = 65 → ¬ k = 64 → ¬ k = 71 → readOne k bs c = some c) := fun h1 h2 h3 => by show _ = _; unfold readOne; rw [if_neg h1, if_neg h2, if_neg h3]
  have HX := hide hx
  clear hx hr hne
  by_cases h65 : k = 65
  · subst h65
    generalize readOne 65 bs c = ro at *
    generalize bs.length = n at *
    clear H64 H71 HE
    go_enter Try.func29, Try.ntmps29
    go_wp2_with fail
    refine H65.out.mono ?_
    rintro e w1 ⟨ht, hk⟩
    obtain ⟨z, rfl, ht⟩ := took_of ht
    have HT := hide ht
    have HK := hide hk
    clear ht hk
    go_wp2
    go_ret
    exact ⟨HT.out, HK.out⟩
  · by_cases h64 : k = 64
    · subst h64
      generalize readOne 64 bs c = ro at *
      generalize bs.length = n at *
      clear H65 H71 HE
      go_enter Try.func29, Try.ntmps29
      go_wp2_with fail
      refine H64.out.mono ?_
      rintro e w1 ⟨ht, hk⟩
      obtain ⟨z, rfl, ht⟩ := took_of ht
      have HT := hide ht
      have HK := hide hk
      clear ht hk
      go_wp2
      go_ret
      exact ⟨HT.out, HK.out⟩
    · by_cases h71 : k = 71
      · subst h71
        generalize readOne 71 bs c = ro at *
        generalize bs.length = n at *
        clear H65 H64 HE
        go_enter Try.func29, Try.ntmps29
        go_wp2_with fail
        refine H71.out.mono ?_
        rintro e w1 ⟨ht, hk⟩
        obtain ⟨z, rfl, ht⟩ := took_of ht
        have HT := hide ht
        have HK := hide hk
        clear ht hk
        go_wp2
        go_ret
        exact ⟨HT.out, HK.out⟩
      · have HE2 := hide (HE.out h65 h64 h71)
        generalize readOne k bs c = ro at *
        generalize bs.length = n at *
        have i65 : ((k : Int) == 65) = false := by simp; omega
        have i64 : ((k : Int) == 64) = false := by simp; omega
        have i71 : ((k : Int) == 71) = false := by simp; omega
        clear H65 H64 H71 HE h65 h64 h71
        go_enter Try.func29, Try.ntmps29
        go_wp2
        go_ret
        exact ⟨took_go HE2.out HX.out, Keeps.refl _ _⟩
end Go.Proofs.Ytnbppedhcdjhjaa
