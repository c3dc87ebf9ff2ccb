/- The program's handOn. -/
import Derived.Test.YtnbppedhcdjhjaaCpG
import Derived.Lib.SlBytesConst
namespace Go.Proofs.Ytnbppedhcdjhjaa
open Go.RowKit
set_option maxRecDepth 100000

/-- What handOn leaves. -/
def Told (B X H : Nat) (c : Cp) (bs : List Nat) (w0 w : World) : Prop := ESt w B X bs ∧ BoxC w H c ∧ Keeps (fun b => b = X ∨ B ≤ b) w0 w
/-- The steps, one by one: Four. -/
theorem step_four {B X H : Nat} {c : Cp} {bs : List Nat} {w0 : World} (hc : goodC c = true) (hf : c.four = true) (hHB : H < B) (hHX : H ≠ X) (hl : bs.length ≤ 100) (w : World) (h : Told B X H c bs w0 w) :
    Calls Try.prog 27 #[.slice none 0 0, .int .i64 c.as4, .int .i64 4] w fun e w1 => ∃ a cc, e = .returned (.slice a 4 cc) ∧ Calls Try.prog 16 #[.int .i64 65, .slice a 4 cc, .pointer (some ⟨X, 0, none⟩)] w1 fun e w' => e = .returned (.tuple #[]) ∧ Told B X H c (bs ++ eFour c) w0 w' := by
  obtain ⟨n, hn⟩ := Int.eq_ofNat_of_zero_le (show 0 ≤ c.as4 by have := gFour_yes (goodC_parts hc).1 hf; omega)
  have e : vFour c = [] ++ nB n 4 := by unfold vFour; rw [hn]; rfl
  have h1 := apnum_any w.heap.size (.slice none 0 0) [] n 4 w (by omega) (by simp) (Nat.le_refl _) (own_nil _ _ _ _)
  rw [hn]
  refine h1.mono fun en w1 ⟨v, he, ho, hb⟩ => ?_
  rw [← e] at ho
  obtain ⟨a, cc, rfl, hk⟩ := tell_any h.1 h.2.1 hHB hHX 65 (vFour c) (by omega) (by rw [vFour_length]; omega) (by omega) (by4_lt _) v ho hb
  rw [vFour_length] at he hk
  refine ⟨a, cc, he, hk.mono fun e2 w2 ⟨k1, k2, k3, k4⟩ => ⟨k1, ?_, k3, h.2.2.trans k4 (fun _ _ h => h)⟩⟩
  unfold eFour
  rw [if_pos hf]
  exact k2
theorem vGR_lt {c : Cp} (h : gGR c = true) : ∀ x ∈ vGR c, x < 256 := fun y hy => by
  have hl := headGR_lt h
  simp only [vGR, List.mem_cons] at hy
  rcases hy with rfl | rfl | hy
  · omega
  · omega
  · unfold famGR at hy
    split at hy
    · simp only [List.mem_cons, List.not_mem_nil, or_false] at hy
      rcases hy with rfl | rfl | rfl | rfl
      · omega
      · omega
      · omega
      · split <;> omega
    · simp at hy
theorem step_gr {B X H : Nat} {c : Cp} {bs : List Nat} {w0 : World} (hc : goodC c = true) (hf : c.gr = true) (hHB : H < B) (hHX : H ≠ X) (hl : bs.length ≤ 100) (w : World) (h : Told B X H c bs w0 w) :
    Calls Try.prog 28 #[capV c] w fun e w1 => ∃ a n cc, e = .returned (.slice a n cc) ∧ Calls Try.prog 16 #[.int .i64 64, .slice a n cc, .pointer (some ⟨X, 0, none⟩)] w1 fun e w' => e = .returned (.tuple #[]) ∧ Told B X H c (bs ++ eGR c) w0 w' := by
  have h2 := (goodC_parts hc).2.1
  refine (valgr_any c w h2).mono fun en w1 ⟨v, he, ho, hb⟩ => ?_
  obtain ⟨a, cc, rfl, hk⟩ := tell_any h.1 h.2.1 hHB hHX 64 (vGR c) (by omega) (by rw [vGR_length]; split <;> omega) (by omega) (vGR_lt h2) v ho hb
  refine ⟨a, _, cc, he, hk.mono fun e2 w2 ⟨k1, k2, k3, k4⟩ => ⟨k1, ?_, k3, h.2.2.trans k4 (fun _ _ h => h)⟩⟩
  unfold eGR
  rw [if_pos hf]
  exact k2
theorem step_ll {B X H : Nat} {c : Cp} {bs : List Nat} {w0 : World} (hc : goodC c = true) (hf : c.ll = true) (hHB : H < B) (hHX : H ≠ X) (hl : bs.length ≤ 100) (w : World) (h : Told B X H c bs w0 w) :
    Calls Try.prog 27 #[.slice (some ⟨w.heap.size, 0, none⟩) 4 4, .int .i64 c.lt, .int .i64 3] (w.alloc (.cells #[.int .u8 0, .int .u8 1, .int .u8 1, .int .u8 0] 5 (4, 5))) fun e w1 => ∃ a cc, e = .returned (.slice a 7 cc) ∧ Calls Try.prog 16 #[.int .i64 71, .slice a 7 cc, .pointer (some ⟨X, 0, none⟩)] w1 fun e w' => e = .returned (.tuple #[]) ∧ Told B X H c (bs ++ eLL c) w0 w' := by
  obtain ⟨n, hn⟩ := Int.eq_ofNat_of_zero_le (show 0 ≤ c.lt by have := gLL_yes (goodC_parts hc).2.2 hf; omega)
  have e : vLL c = [0, 1, 1, 0] ++ nB n 3 := by unfold vLL; rw [hn]; rfl
  have hb0 : Below w.heap.size w (w.alloc (.cells #[.int .u8 0, .int .u8 1, .int .u8 1, .int .u8 0] 5 (4, 5))) := below_new _ _
  have hcell : ∀ (j x : Nat), [0, 1, 1, 0][j]? = some x → (w.alloc (.cells #[.int .u8 0, .int .u8 1, .int .u8 1, .int .u8 0] 5 (4, 5))).cell? ⟨w.heap.size, j, none⟩ = some (.int .u8 (x : Int)) := fun j x hx => by
    rw [World.cell?_alloc_mark]
    match j, hx with
    | 0, hx => cases hx; rfl
    | 1, hx => cases hx; rfl
    | 2, hx => cases hx; rfl
    | 3, hx => cases hx; rfl
  have h1 := apnum_gen w.heap.size (.slice (some ⟨w.heap.size, 0, none⟩) 4 4) [0, 1, 1, 0] n 3 (w.alloc (.cells #[.int .u8 0, .int .u8 1, .int .u8 1, .int .u8 0] 5 (4, 5))) (by omega) (by simp) hb0.size (fun y => app_full rfl hcell hb0.size y (by simp))
  rw [hn]
  refine h1.mono fun en w1 ⟨v, he, ho, hb⟩ => ?_
  rw [← e] at ho
  have hv : ∀ x ∈ vLL c, x < 256 := by
    rw [vLL_eq]
    intro x hx
    simp only [List.mem_cons, List.not_mem_nil, or_false] at hx
    rcases hx with rfl | rfl | rfl | rfl | rfl | rfl | rfl <;> omega
  obtain ⟨a, cc, rfl, hk⟩ := tell_any h.1 h.2.1 hHB hHX 71 (vLL c) (by omega) (by rw [vLL_length]; omega) (by omega) hv v ho (hb0.trans hb)
  rw [vLL_length] at he hk
  refine ⟨a, cc, he, hk.mono fun e2 w2 ⟨k1, k2, k3, k4⟩ => ⟨k1, ?_, k3, h.2.2.trans k4 (fun _ _ h => h)⟩⟩
  unfold eLL
  rw [if_pos hf]
  exact k2
set_option maxHeartbeats 3200000 in
theorem handon_any (B X : Nat) (c : Cp) (w : World) (hc : goodC c = true) (hs : ESt w B X []) (hB : B = w.heap.size) :
    Calls Try.prog 15 #[capV c, .func (.func 16) #[] #[.pointer (some ⟨X, 0, none⟩)]] w fun e w' => e = .returned (.tuple #[]) ∧ ESt w' (B + 1) X (encIn c) ∧ Keeps (fun b => b = X ∨ B ≤ b) w w' := by
  subst hB
  have hX : X < w.heap.size := hs.lt
  have HT0 : Hid (Told (w.heap.size + 1) X w.heap.size c [] w (w.alloc (.cells (capC c) 23))) := by
    obtain ⟨a, cc, h1, h2⟩ := hs.row
    refine ⟨⟨⟨a, cc, ?_, ?_⟩, ?_, by omega, by simp⟩, BoxC.new w c, (Keeps.refl _ _).alloc _⟩
    · rw [World.cell?_alloc_lt _ _ _ hX]; exact h1
    · rcases h2.2 with ⟨e, e2⟩ | ⟨g, cap, cur, e, hg, hh, _⟩
      · rw [e]; exact own_nil _ _ _ _
      · have := (Array.getElem?_eq_some_iff.1 hh).1
        omega
    · have := hs.free
      rw [(below_new w (.cells (capC c) 23)).frozen (p := ⟨X, 0, none⟩) hX]; exact this
  have HE : Hid (encIn c = eFour c ++ (eGR c ++ eLL c)) := rfl
  have HL1 : Hid ((eFour c).length ≤ 6) := by show (eFour c).length ≤ 6; rw [eFour_length]; split <;> omega
  have HL2 := hide (eGR_length c)
  have HS1 := hide (fun hf bs hl W h => step_four (B := w.heap.size + 1) (X := X) (H := w.heap.size) (c := c) (bs := bs) (w0 := w) hc hf (Nat.lt_succ_self _) (by omega) hl W h)
  have HS2 := hide (fun hf bs hl W h => step_gr (B := w.heap.size + 1) (X := X) (H := w.heap.size) (c := c) (bs := bs) (w0 := w) hc hf (Nat.lt_succ_self _) (by omega) hl W h)
  have HS3 := hide (fun hf bs hl W h => step_ll (B := w.heap.size + 1) (X := X) (H := w.heap.size) (c := c) (bs := bs) (w0 := w) hc hf (Nat.lt_succ_self _) (by omega) hl W h)
  have HN1 : Hid (c.four = false → eFour c = []) := fun h => by show eFour c = []; unfold eFour; rw [h]; rfl
  have HN2 : Hid (c.gr = false → eGR c = []) := fun h => by show eGR c = []; unfold eGR; rw [h]; rfl
  have HN3 : Hid (c.ll = false → eLL c = []) := fun h => by show eLL c = []; unfold eLL; rw [h]; rfl
  have HK : Hid (∀ W bs, Told (w.heap.size + 1) X w.heap.size c bs w W → Keeps (fun b => b = X ∨ w.heap.size ≤ b) w W) := fun W bs h => h.2.2.mono (fun b _ hb => hb.imp id (fun h => by omega))
  have HBX : Hid (∀ W bs, Told (w.heap.size + 1) X w.heap.size c bs w W → BoxC W w.heap.size c) := fun W bs h => h.2.1
  clear hc hs
  have kc := fun (w : World) (C : Array Value) (n c : Nat) => Lib.run_convert_bytes_const (P := Try.prog) w 24 5 C n c Try.underlying24 Try.underlying5
  obtain ⟨e4, h4⟩ : ∃ x, x = eFour c := ⟨_, rfl⟩
  obtain ⟨eg, hg⟩ : ∃ x, x = eGR c := ⟨_, rfl⟩
  obtain ⟨el, hll⟩ : ∃ x, x = eLL c := ⟨_, rfl⟩
  obtain ⟨ein, hin⟩ : ∃ x, x = encIn c := ⟨_, rfl⟩
  rw [← h4] at HS1 HN1 HE HL1
  rw [← hg] at HS2 HN2 HE HL2
  rw [← hll] at HS3 HN3 HE
  rw [← hin] at HE
  rw [← hin]
  clear h4 hg hll hin
  obtain ⟨four, as4, gr, rs, tm, fam, fwd, ll, lt⟩ := c
  unfold BoxC at HBX
  unfold capV at *
  unfold capC at HT0
  simp only at *
  cases four with
  | true =>
    cases gr with
    | true =>
      cases ll with
      | true =>
        go_enter Try.func15, Try.ntmps15
        have c0 := HBX.out _ _ HT0.out
        obtain ⟨x0, x1, x2, x3, x4, x5, x6, x7, x8⟩ := c0
        go_wp2_with fail
        refine (HS1.out (by trivial) [] (by simp) _ HT0.out).mono ?_
        rintro e w1a ⟨a1, c1, rfl, hk⟩
        have HKK1 := hide hk
        clear hk x0 x1 x2 x3 x4 x5 x6 x7 x8
        go_wp2_with fail
        refine HKK1.out.mono ?_
        rintro e w1 ⟨rfl, ht⟩
        have HT1 := hide ht
        clear ht
        obtain ⟨x0, x1, x2, x3, x4, x5, x6, x7, x8⟩ := HBX.out _ _ HT1.out
        go_wp2_with fail
        refine (HS2.out (by trivial) ([] ++ e4) (by have := HL1.out; simp; try omega) _ HT1.out).mono ?_
        rintro e w2a ⟨a2, n2, c2, rfl, hk⟩
        have HKK2 := hide hk
        clear hk x0 x1 x2 x3 x4 x5 x6 x7 x8
        go_wp2_with fail
        refine HKK2.out.mono ?_
        rintro e w2 ⟨rfl, ht⟩
        have HT2 := hide ht
        clear ht
        obtain ⟨x0, x1, x2, x3, x4, x5, x6, x7, x8⟩ := HBX.out _ _ HT2.out
        have y8 := Lib.cell?_alloc_marked (.cells #[.int .u8 0, .int .u8 1, .int .u8 1, .int .u8 0] 5 (4, 5)) x8
        go_wp2_with fail
        refine (HS3.out (by trivial) (([] ++ e4) ++ eg) (by have := HL1.out; have := HL2.out; simp; try omega) _ HT2.out).mono ?_
        rintro e w3a ⟨a3, c3, rfl, hk⟩
        have HKK3 := hide hk
        clear hk x0 x1 x2 x3 x4 x5 x6 x7 x8
        go_wp2_with fail
        refine HKK3.out.mono ?_
        rintro e w3 ⟨rfl, ht⟩
        have HT3 := hide ht
        clear ht
        obtain ⟨x0, x1, x2, x3, x4, x5, x6, x7, x8⟩ := HBX.out _ _ HT3.out
        go_wp2
        refine bodyPost_end (results_none rfl _ _ _) rfl ⟨rfl, ?_, HK.out _ _ HT3.out⟩
        have h9 := HT3.out.1
        rw [HE.out]
        simpa using h9
      | false =>
        go_enter Try.func15, Try.ntmps15
        have c0 := HBX.out _ _ HT0.out
        obtain ⟨x0, x1, x2, x3, x4, x5, x6, x7, x8⟩ := c0
        go_wp2_with fail
        refine (HS1.out (by trivial) [] (by simp) _ HT0.out).mono ?_
        rintro e w1a ⟨a1, c1, rfl, hk⟩
        have HKK1 := hide hk
        clear hk x0 x1 x2 x3 x4 x5 x6 x7 x8
        go_wp2_with fail
        refine HKK1.out.mono ?_
        rintro e w1 ⟨rfl, ht⟩
        have HT1 := hide ht
        clear ht
        obtain ⟨x0, x1, x2, x3, x4, x5, x6, x7, x8⟩ := HBX.out _ _ HT1.out
        go_wp2_with fail
        refine (HS2.out (by trivial) ([] ++ e4) (by have := HL1.out; simp; try omega) _ HT1.out).mono ?_
        rintro e w2a ⟨a2, n2, c2, rfl, hk⟩
        have HKK2 := hide hk
        clear hk x0 x1 x2 x3 x4 x5 x6 x7 x8
        go_wp2_with fail
        refine HKK2.out.mono ?_
        rintro e w2 ⟨rfl, ht⟩
        have HT2 := hide ht
        clear ht
        obtain ⟨x0, x1, x2, x3, x4, x5, x6, x7, x8⟩ := HBX.out _ _ HT2.out
        go_wp2
        refine bodyPost_end (results_none rfl _ _ _) rfl ⟨rfl, ?_, HK.out _ _ HT2.out⟩
        have h9 := HT2.out.1
        rw [HE.out, HN3.out (by trivial)]
        simpa using h9
    | false =>
      cases ll with
      | true =>
        go_enter Try.func15, Try.ntmps15
        have c0 := HBX.out _ _ HT0.out
        obtain ⟨x0, x1, x2, x3, x4, x5, x6, x7, x8⟩ := c0
        go_wp2_with fail
        refine (HS1.out (by trivial) [] (by simp) _ HT0.out).mono ?_
        rintro e w1a ⟨a1, c1, rfl, hk⟩
        have HKK1 := hide hk
        clear hk x0 x1 x2 x3 x4 x5 x6 x7 x8
        go_wp2_with fail
        refine HKK1.out.mono ?_
        rintro e w1 ⟨rfl, ht⟩
        have HT1 := hide ht
        clear ht
        obtain ⟨x0, x1, x2, x3, x4, x5, x6, x7, x8⟩ := HBX.out _ _ HT1.out
        have y8 := Lib.cell?_alloc_marked (.cells #[.int .u8 0, .int .u8 1, .int .u8 1, .int .u8 0] 5 (4, 5)) x8
        go_wp2_with fail
        refine (HS3.out (by trivial) ([] ++ e4) (by have := HL1.out; have := HL2.out; simp; try omega) _ HT1.out).mono ?_
        rintro e w2a ⟨a2, c2, rfl, hk⟩
        have HKK2 := hide hk
        clear hk x0 x1 x2 x3 x4 x5 x6 x7 x8
        go_wp2_with fail
        refine HKK2.out.mono ?_
        rintro e w2 ⟨rfl, ht⟩
        have HT2 := hide ht
        clear ht
        obtain ⟨x0, x1, x2, x3, x4, x5, x6, x7, x8⟩ := HBX.out _ _ HT2.out
        go_wp2
        refine bodyPost_end (results_none rfl _ _ _) rfl ⟨rfl, ?_, HK.out _ _ HT2.out⟩
        have h9 := HT2.out.1
        rw [HE.out, HN2.out (by trivial)]
        simpa using h9
      | false =>
        go_enter Try.func15, Try.ntmps15
        have c0 := HBX.out _ _ HT0.out
        obtain ⟨x0, x1, x2, x3, x4, x5, x6, x7, x8⟩ := c0
        go_wp2_with fail
        refine (HS1.out (by trivial) [] (by simp) _ HT0.out).mono ?_
        rintro e w1a ⟨a1, c1, rfl, hk⟩
        have HKK1 := hide hk
        clear hk x0 x1 x2 x3 x4 x5 x6 x7 x8
        go_wp2_with fail
        refine HKK1.out.mono ?_
        rintro e w1 ⟨rfl, ht⟩
        have HT1 := hide ht
        clear ht
        obtain ⟨x0, x1, x2, x3, x4, x5, x6, x7, x8⟩ := HBX.out _ _ HT1.out
        go_wp2
        refine bodyPost_end (results_none rfl _ _ _) rfl ⟨rfl, ?_, HK.out _ _ HT1.out⟩
        have h9 := HT1.out.1
        rw [HE.out, HN2.out (by trivial), HN3.out (by trivial)]
        simpa using h9
  | false =>
    cases gr with
    | true =>
      cases ll with
      | true =>
        go_enter Try.func15, Try.ntmps15
        have c0 := HBX.out _ _ HT0.out
        obtain ⟨x0, x1, x2, x3, x4, x5, x6, x7, x8⟩ := c0
        go_wp2_with fail
        refine (HS2.out (by trivial) [] (by have := HL1.out; simp; try omega) _ HT0.out).mono ?_
        rintro e w1a ⟨a1, n1, c1, rfl, hk⟩
        have HKK1 := hide hk
        clear hk x0 x1 x2 x3 x4 x5 x6 x7 x8
        go_wp2_with fail
        refine HKK1.out.mono ?_
        rintro e w1 ⟨rfl, ht⟩
        have HT1 := hide ht
        clear ht
        obtain ⟨x0, x1, x2, x3, x4, x5, x6, x7, x8⟩ := HBX.out _ _ HT1.out
        have y8 := Lib.cell?_alloc_marked (.cells #[.int .u8 0, .int .u8 1, .int .u8 1, .int .u8 0] 5 (4, 5)) x8
        go_wp2_with fail
        refine (HS3.out (by trivial) ([] ++ eg) (by have := HL1.out; have := HL2.out; simp; try omega) _ HT1.out).mono ?_
        rintro e w2a ⟨a2, c2, rfl, hk⟩
        have HKK2 := hide hk
        clear hk x0 x1 x2 x3 x4 x5 x6 x7 x8
        go_wp2_with fail
        refine HKK2.out.mono ?_
        rintro e w2 ⟨rfl, ht⟩
        have HT2 := hide ht
        clear ht
        obtain ⟨x0, x1, x2, x3, x4, x5, x6, x7, x8⟩ := HBX.out _ _ HT2.out
        go_wp2
        refine bodyPost_end (results_none rfl _ _ _) rfl ⟨rfl, ?_, HK.out _ _ HT2.out⟩
        have h9 := HT2.out.1
        rw [HE.out, HN1.out (by trivial)]
        simpa using h9
      | false =>
        go_enter Try.func15, Try.ntmps15
        have c0 := HBX.out _ _ HT0.out
        obtain ⟨x0, x1, x2, x3, x4, x5, x6, x7, x8⟩ := c0
        go_wp2_with fail
        refine (HS2.out (by trivial) [] (by have := HL1.out; simp; try omega) _ HT0.out).mono ?_
        rintro e w1a ⟨a1, n1, c1, rfl, hk⟩
        have HKK1 := hide hk
        clear hk x0 x1 x2 x3 x4 x5 x6 x7 x8
        go_wp2_with fail
        refine HKK1.out.mono ?_
        rintro e w1 ⟨rfl, ht⟩
        have HT1 := hide ht
        clear ht
        obtain ⟨x0, x1, x2, x3, x4, x5, x6, x7, x8⟩ := HBX.out _ _ HT1.out
        go_wp2
        refine bodyPost_end (results_none rfl _ _ _) rfl ⟨rfl, ?_, HK.out _ _ HT1.out⟩
        have h9 := HT1.out.1
        rw [HE.out, HN1.out (by trivial), HN3.out (by trivial)]
        simpa using h9
    | false =>
      cases ll with
      | true =>
        go_enter Try.func15, Try.ntmps15
        have c0 := HBX.out _ _ HT0.out
        obtain ⟨x0, x1, x2, x3, x4, x5, x6, x7, x8⟩ := c0
        have y8 := Lib.cell?_alloc_marked (.cells #[.int .u8 0, .int .u8 1, .int .u8 1, .int .u8 0] 5 (4, 5)) x8
        have kc2 := kc (w.alloc (.cells #[.bool false, .int .i64 as4, .bool false, .bool rs, .int .i64 tm, .bool fam, .bool fwd, .bool true, .int .i64 lt] 23)) #[.int .u8 0, .int .u8 1, .int .u8 1, .int .u8 0] 4 4
        have HQ := hide (HS3.out (by trivial) [] (by simp) _ HT0.out)
        rw [World.size_alloc] at kc2 HQ
        go_wp2_with fail
        refine HQ.out.mono ?_
        rintro e w1a ⟨a1, c1, rfl, hk⟩
        have HKK1 := hide hk
        clear hk x0 x1 x2 x3 x4 x5 x6 x7 x8
        go_wp2_with fail
        refine HKK1.out.mono ?_
        rintro e w1 ⟨rfl, ht⟩
        have HT1 := hide ht
        clear ht
        obtain ⟨x0, x1, x2, x3, x4, x5, x6, x7, x8⟩ := HBX.out _ _ HT1.out
        go_wp2
        refine bodyPost_end (results_none rfl _ _ _) rfl ⟨rfl, ?_, HK.out _ _ HT1.out⟩
        have h9 := HT1.out.1
        rw [HE.out, HN1.out (by trivial), HN2.out (by trivial)]
        simpa using h9
      | false =>
        go_enter Try.func15, Try.ntmps15
        have c0 := HBX.out _ _ HT0.out
        obtain ⟨x0, x1, x2, x3, x4, x5, x6, x7, x8⟩ := c0
        go_wp2
        refine bodyPost_end (results_none rfl _ _ _) rfl ⟨rfl, ?_, HK.out _ _ HT0.out⟩
        have h9 := HT0.out.1
        rw [HE.out, HN1.out (by trivial), HN2.out (by trivial), HN3.out (by trivial)]
        simpa using h9
end Go.Proofs.Ytnbppedhcdjhjaa
