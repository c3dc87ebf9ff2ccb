/- The document's read: 71; read. -/
import Derived.Test.YtnbppedhcdjhjaaCpB
import Derived.Test.YtnbppedhcdjhjaaCpT
import Derived.BigRegion
namespace Go.Proofs.Ytnbppedhcdjhjaa
open Go.RowKit
set_option maxRecDepth 100000

set_option maxHeartbeats 1600000 in
theorem rd71_bad (X : Nat) (a : Option Addr) (n cap : Nat) (w : World) (h : n % 7 ≠ 0) (hl : n ≤ 10000) :
    Calls Try.prog 26 #[.pointer (some ⟨X, 0, none⟩), .int .i64 71, .slice a n cap] w fun e w' => e = .returned (.bool false) ∧ w' = w := by
  have hm : ((n : Int) % 7 != 0) = true := by
    simp
    omega
  clear h
  go_enter Try.func26, Try.ntmps26
  go_wp2
  go_ret
  exact ⟨rfl, rfl⟩
set_option maxHeartbeats 3200000 in
theorem rd71_good (X : Nat) (c : Cp) (a : Option Addr) (cap : Nat) (bs : List Nat) (w : World) (hx : CBox w X c) (hr : BRd w a bs) (hne : ∀ x, a = some x → 0 < bs.length → x.block ≠ X) (hl : bs.length ≤ 10000) (h : bs.length % 7 = 0) :
    Calls Try.prog 26 #[.pointer (some ⟨X, 0, none⟩), .int .i64 71, .slice a bs.length cap] w fun e w' => Took X (some (putLL bs c)) e w' ∧ Keeps (fun b => b = X) w w' := by
  have HR := hide hr
  have hXs := hx.size
  have HNE := hide hne
  have HB5 := hide (ll_box hx false 0)
  have HK5 := hide (((Keeps.refl (fun b => b = X) w).setCell X 7 (.bool false) (.inl rfl)).setCell X 8 (.int .i64 0) (.inl rfl))
  obtain ⟨x0, x1, x2, x3, x4, x5, x6, x7, x8⟩ := hx.cells
  have f7 := hx.free 7
  have f8 := hx.free 8
  have HN : Hid (∃ n, bs.length = n) := ⟨_, rfl⟩
  obtain ⟨n, hn⟩ := HN.out
  have hmi : ((n : Int) % 7 != 0) = false := by rw [← hn]; simp; omega
  rw [hn]
  rw [hn] at hl
  have HNN := hide hn
  have HN4 : Hid (n % 7 = 0) := by show n % 7 = 0; rw [← hn]; exact h
  have HP0 : Hid (putLL bs c = { c with ll := (fstU 7 bs).isSome, lt := (ltOf (fstU 7 bs) : Int) }) := rfl
  generalize putLL bs c = pc at *
  clear hr hx hne HN hn h
  obtain ⟨four, as4, gr, rs, tm, fam, fwd, ll, lt⟩ := c
  simp only at *
  obtain ⟨fu, hfu⟩ : ∃ fu, fu = fstU 7 bs := ⟨_, rfl⟩
  rw [← hfu] at HP0
  have HFU := hide hfu
  clear hfu
  go_enter Try.func26, Try.ntmps26
  go_wp2_with fail
  generalize ((w.setCell ⟨X, 7, none⟩ (.bool false)).setCell ⟨X, 8, none⟩ (.int .i64 0)) = W at *
  clear x0 x1 x2 x3 x4 x5 x6 x7 x8 f7 f8
  go_loopw [8] (fun iv wq => ∃ (i : Nat) (fl : Bool) (L : Nat), iv = .int .i64 (i : Int) ∧ i ≤ n ∧ Hid (i % 7 = 0) ∧ Hid (CBox wq X ⟨four, as4, gr, rs, tm, fam, fwd, fl, (L : Int)⟩) ∧ Hid (Keeps (fun b => b = X) w wq) ∧ Hid (fl = true ∧ fu.isSome = true ∧ ltOf fu = L ∨ fl = false ∧ L = 0 ∧ fu = fstU 7 (bs.drop i))) (fun iv _ => n - (intOf iv).toNat)
  case atStart => exact ⟨0, false, 0, rfl, by omega, rfl, HB5, HK5, .inr ⟨rfl, rfl, HFU.out⟩⟩
  case round =>
    obtain ⟨i, fm, fw, rfl, hin, HI, HB, HK, HF⟩ := hrel
    clear HB5 HK5
    by_cases hlt : i < n
    · have hi4 : i + 7 ≤ n := by have := HI.out; have := HN4.out; omega
      obtain ⟨b, o, rfl, _⟩ := HR.out.1.2 (by rw [HNN.out]; omega)
      have hbX : b ≠ X := HNE.out ⟨b, o, none⟩ rfl (by rw [HNN.out]; omega)
      have hxb : X ≠ b := Ne.symm hbX
      have hrw : BRd wr (some ⟨b, o, none⟩) bs := HR.out.keeps HK.out (fun x e _ => by cases e; exact hbX)
      obtain ⟨b9, o9, e9, hc⟩ := hrw.1.2 (by rw [HNN.out]; omega)
      cases e9
      have c0 : wr.cell? ⟨b, o + i, none⟩ = some (.int .u8 (bs.getD i 0 : Int)) := hc i (by rw [HNN.out]; omega)
      have c1 : wr.cell? ⟨b, o + (i + 1), none⟩ = some (.int .u8 (bs.getD (i + 1) 0 : Int)) := hc (i + 1) (by rw [HNN.out]; omega)
      have c2 : wr.cell? ⟨b, o + (i + 2), none⟩ = some (.int .u8 (bs.getD (i + 2) 0 : Int)) := hc (i + 2) (by rw [HNN.out]; omega)
      have c4 : wr.cell? ⟨b, o + (i + 4), none⟩ = some (.int .u8 (bs.getD (i + 4) 0 : Int)) := hc (i + 4) (by rw [HNN.out]; omega)
      have c5 : wr.cell? ⟨b, o + (i + 5), none⟩ = some (.int .u8 (bs.getD (i + 5) 0 : Int)) := hc (i + 5) (by rw [HNN.out]; omega)
      have c6 : wr.cell? ⟨b, o + (i + 6), none⟩ = some (.int .u8 (bs.getD (i + 6) 0 : Int)) := hc (i + 6) (by rw [HNN.out]; omega)
      have g4 := getD_lt256 HR.out.2 (i + 4)
      have g5 := getD_lt256 HR.out.2 (i + 5)
      have g6 := getD_lt256 HR.out.2 (i + 6)
      have hbw := World.block_lt_of_cell? wr _ c0
      simp only at hbw
      obtain ⟨x0, x1, x2, x3, x4, x5, x6, x7, x8⟩ := HB.out.cells
      have f7 := HB.out.free 7
      have f8 := HB.out.free 8
      have hXw := HB.out.size
      simp only at x0 x1 x2 x3 x4 x5 x6 x7 x8
      have hdl : (bs.drop i).length = n - i := by rw [List.length_drop, HNN.out]
      have ht3 : (bs.drop i).take 3 = [bs.getD i 0, bs.getD (i + 1) 0, bs.getD (i + 2) 0] := by
        rw [take3 (by omega)]
        simp only [List.getD_eq_getElem?_getD, List.getElem?_drop, Nat.add_zero]
      have HMISS : Hid (¬ (bs.getD i 0 = 0 ∧ bs.getD (i + 1) 0 = 1 ∧ bs.getD (i + 2) 0 = 1) → fm = true ∧ fu.isSome = true ∧ ltOf fu = fw ∨ fm = false ∧ fw = 0 ∧ fu = fstU 7 (bs.drop (i + 7))) := fun hno => by
        rcases HF.out with hh | ⟨h1, h2, h3⟩
        · exact .inl hh
        · refine .inr ⟨h1, h2, ?_⟩
          rw [h3, fstU_miss (by omega) (by omega) (by rw [ht3]; intro h9; simp only [List.cons.injEq, and_true] at h9; exact hno h9), List.drop_drop]
      have HHIT : Hid ((bs.getD i 0 = 0 ∧ bs.getD (i + 1) 0 = 1 ∧ bs.getD (i + 2) 0 = 1) → fm = false → fu.isSome = true ∧ ltOf fu = bs.getD (i + 4) 0 * 65536 + bs.getD (i + 5) 0 * 256 + bs.getD (i + 6) 0) := fun hy hf => by
        rcases HF.out with ⟨h1, _⟩ | ⟨h1, h2, h3⟩
        · rw [h1] at hf; cases hf
        · rw [h3, fstU_hit (by omega) (by rw [ht3, hy.1, hy.2.1, hy.2.2])]
          refine ⟨rfl, ?_⟩
          show ((bs.drop i).take 7).getD 4 0 * 65536 + ((bs.drop i).take 7).getD 5 0 * 256 + ((bs.drop i).take 7).getD 6 0 = _
          have e : ∀ q, q < 7 → ((bs.drop i).take 7).getD q 0 = bs.getD (i + q) 0 := fun q hq => by
            rw [List.getD_eq_getElem?_getD, List.getElem?_take_of_lt hq, List.getElem?_drop, List.getD_eq_getElem?_getD]
          rw [e 4 (by omega), e 5 (by omega), e 6 (by omega)]
      generalize bs.getD i 0 = t0 at *
      generalize bs.getD (i + 1) 0 = t1 at *
      generalize bs.getD (i + 2) 0 = t2 at *
      generalize bs.getD (i + 4) 0 = t4 at *
      generalize bs.getD (i + 5) 0 = t5 at *
      generalize bs.getD (i + 6) 0 = t6 at *
      have l0 : (0 : Int) ≤ (i : Int) := Int.natCast_nonneg _
      have l1 : (i : Int) < (n : Int) := by omega
      have l2 : (i : Int) + 1 < (n : Int) := by omega
      have l3 : (i : Int) + 2 < (n : Int) := by omega
      have l4 : (i : Int) + 4 < (n : Int) := by omega
      have l5 : (i : Int) + 5 < (n : Int) := by omega
      have l6 : (i : Int) + 6 < (n : Int) := by omega
      have n0 : i < n := hlt
      have n4 : i + 4 < n := by omega
      have n5 : i + 5 < n := by omega
      have n6 : i + 6 < n := by omega
      have v1 : IntKind.i64.wrap ((i : Int) + 4) = (i : Int) + 4 := by rw [IntKind.wrap_i64]; omega
      have v2 : IntKind.i64.wrap ((i : Int) + 5) = (i : Int) + 5 := by rw [IntKind.wrap_i64]; omega
      have v3 : IntKind.i64.wrap ((i : Int) + 6) = (i : Int) + 6 := by rw [IntKind.wrap_i64]; omega
      clear hc hrw ht3 hdl
      by_cases e0 : t0 = 0
      · by_cases e1 : t1 = 1
        · by_cases e2 : t2 = 1
          · cases fm with
            | true =>
              have HF2 : Hid (true = true ∧ fu.isSome = true ∧ ltOf fu = fw ∨ true = false ∧ fw = 0 ∧ fu = fstU 7 (bs.drop (i + 7))) := by
                rcases HF.out with hh | ⟨h1, _⟩
                · exact .inl hh
                · cases h1
              subst e0 e1 e2
              clear HMISS HHIT HF
              go_wp2
              exact ⟨⟨i + 7, true, fw, by go_num, by omega, by have := HI.out; show (i + 7) % 7 = 0; omega, HB, HK, HF2⟩, by simp [intOf]; omega⟩
            | false =>
              obtain ⟨k1, k2⟩ := HHIT.out ⟨e0, e1, e2⟩ rfl
              obtain ⟨L2, hL2⟩ : ∃ L2, L2 = t4 * 65536 + t5 * 256 + t6 := ⟨_, rfl⟩
              rw [← hL2] at k2
              have HKK : Hid (fu.isSome = true ∧ ltOf fu = L2) := ⟨k1, k2⟩
              have HB2 := hide (ll_box HB.out true (L2 : Int))
              have HK2 := hide ((HK.out.setCell X 7 (.bool true) (.inl rfl)).setCell X 8 (.int .i64 (L2 : Int)) (.inl rfl))
              have HL2 : Hid (65536 * (t4 : Int) + 256 * (t5 : Int) + (t6 : Int) = (L2 : Int)) := by show _ = _; omega
              subst e0 e1 e2
              clear HMISS HHIT HF k1 k2 hL2
              go_wp2_with fail
              go_region
              rw [HL2.out]
              go_wp2
              exact ⟨⟨i + 7, true, L2, by go_num, by omega, by have := HI.out; show (i + 7) % 7 = 0; omega, HB2.out.block rfl, HK2.out.drew, .inl ⟨rfl, HKK.out.1, HKK.out.2⟩⟩, by simp [intOf]; omega⟩
          · have HF2 := hide (HMISS.out (fun h => e2 h.2.2))
            have i2 : ((t2 : Int) == 1) = false := by simp; omega
            subst e0 e1
            clear HMISS HHIT HF e2
            go_wp2
            exact ⟨⟨i + 7, fm, fw, by go_num, by omega, by have := HI.out; show (i + 7) % 7 = 0; omega, HB, HK, HF2⟩, by simp [intOf]; omega⟩
        · have HF2 := hide (HMISS.out (fun h => e1 h.2.1))
          have i1 : ((t1 : Int) == 1) = false := by simp; omega
          subst e0
          clear HMISS HHIT HF e1
          go_wp2
          exact ⟨⟨i + 7, fm, fw, by go_num, by omega, by have := HI.out; show (i + 7) % 7 = 0; omega, HB, HK, HF2⟩, by simp [intOf]; omega⟩
      · have HF2 := hide (HMISS.out (fun h => e0 h.1))
        have i0 : ((t0 : Int) == 0) = false := by simp; omega
        clear HMISS HHIT HF e0
        go_wp2
        exact ⟨⟨i + 7, fm, fw, by go_num, by omega, by have := HI.out; show (i + 7) % 7 = 0; omega, HB, HK, HF2⟩, by simp [intOf]; omega⟩
    · have HQ : Hid (pc = ⟨four, as4, gr, rs, tm, fam, fwd, fm, (fw : Int)⟩) := by
        show pc = _
        rw [HP0.out]
        rcases HF.out with ⟨h1, h2, h3⟩ | ⟨h1, h2, h3⟩
        · rw [h2, h3, h1]
        · rw [h3, fstU_end (by rw [List.length_drop, HNN.out]; omega), h1, h2]; rfl
      have hi2 : ¬ ((i : Int) < (n : Int)) := by omega
      go_wp2
      go_ret
      exact ⟨took_go rfl (by rw [HQ.out]; exact HB.out), HK.out⟩
theorem rd71_any (X : Nat) (c : Cp) (a : Option Addr) (cap : Nat) (bs : List Nat) (w : World) (hx : CBox w X c) (hr : BRd w a bs) (hne : ∀ x, a = some x → 0 < bs.length → x.block ≠ X) (hl : bs.length ≤ 10000) :
    Calls Try.prog 26 #[.pointer (some ⟨X, 0, none⟩), .int .i64 71, .slice a bs.length cap] w fun e w' => Took X (readOne 71 bs c) e w' ∧ Keeps (fun b => b = X) w w' := by
  have e71 : readOne 71 bs c = if bs.length % 7 = 0 then some (putLL bs c) else none := by unfold readOne; rw [if_neg (by omega), if_neg (by omega), if_pos rfl]
  rw [e71]
  by_cases h : bs.length % 7 = 0
  · rw [if_pos h]; exact rd71_good X c a cap bs w hx hr hne hl h
  · rw [if_neg h]
    refine (rd71_bad X a bs.length cap w h hl).mono fun e w' ⟨h1, h2⟩ => ⟨?_, by rw [h2]; exact Keeps.refl _ _⟩
    rw [h1]; rfl
theorem rdone_any (X : Nat) (c : Cp) (k : Nat) (a : Option Addr) (cap : Nat) (bs : List Nat) (w : World) (hx : CBox w X c) (hr : BRd w a bs) (hne : ∀ x, a = some x → 0 < bs.length → x.block ≠ X) (hl : bs.length ≤ 10000) :
    Calls Try.prog 26 #[.pointer (some ⟨X, 0, none⟩), .int .i64 (k : Int), .slice a bs.length cap] w fun e w' => Took X (readOne k bs c) e w' ∧ Keeps (fun b => b = X) w w' := by
  by_cases h65 : k = 65
  · subst h65; exact rd65_any X c a cap bs w hx hr
  · by_cases h64 : k = 64
    · subst h64; exact rd64_any X c a cap bs w hx hr hne hl
    · by_cases h71 : k = 71
      · subst h71; exact rd71_any X c a cap bs w hx hr hne hl
      · have e : readOne k bs c = some c := by unfold readOne; rw [if_neg h65, if_neg h64, if_neg h71]
        rw [e]
        exact rdno_any X c k a bs.length cap w hx h65 h64 h71
end Go.Proofs.Ytnbppedhcdjhjaa
