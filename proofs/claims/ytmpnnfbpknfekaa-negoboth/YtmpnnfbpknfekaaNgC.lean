/- What is wrong first with an OPEN: the program's Check. -/
import Derived.Test.YtmpnnfbpknfekaaNgB
namespace Go.Proofs.Ytmpnnfbpknfekaa
open Go.RowKit
set_option maxRecDepth 100000

/-- A Note's box behind three others stays as it was made. -/
theorem nb4 (w : World) (o p q : Obj) (w' : World) (h : Below ((((w.alloc o).alloc p).alloc q).alloc (.cells #[.int .i64 0, .int .i64 0, .slice Option.none 0 0] 38)).heap.size ((((w.alloc o).alloc p).alloc q).alloc (.cells #[.int .i64 0, .int .i64 0, .slice Option.none 0 0] 38)) w') :
      w'.cell? ⟨w.heap.size + 1 + 1 + 1, 0, Option.none⟩ = some (.int .i64 0) ∧ w'.cell? ⟨w.heap.size + 1 + 1 + 1, 1, Option.none⟩ = some (.int .i64 0) ∧ w'.cell? ⟨w.heap.size + 1 + 1 + 1, 2, Option.none⟩ = some (.slice Option.none 0 0) ∧
      w'.frozen? ⟨w.heap.size + 1 + 1 + 1, 0, Option.none⟩ = false ∧ w'.frozen? ⟨w.heap.size + 1 + 1 + 1, 1, Option.none⟩ = false ∧ w'.frozen? ⟨w.heap.size + 1 + 1 + 1, 2, Option.none⟩ = false ∧ w.heap.size + 1 + 1 + 1 < w'.heap.size := by
  have hz := h.size
  simp only [World.size_alloc] at hz
  refine ⟨?_, ?_, ?_, ?_, ?_, ?_, by omega⟩
  · rw [h.cell (p := ⟨w.heap.size + 1 + 1 + 1, 0, Option.none⟩) (by simp)]; simp [go_sem]
  · rw [h.cell (p := ⟨w.heap.size + 1 + 1 + 1, 1, Option.none⟩) (by simp)]; simp [go_sem]
  · rw [h.cell (p := ⟨w.heap.size + 1 + 1 + 1, 2, Option.none⟩) (by simp)]; simp [go_sem]
  · rw [h.frozen (p := ⟨w.heap.size + 1 + 1 + 1, 0, Option.none⟩) (by simp)]; simp [go_sem]
  · rw [h.frozen (p := ⟨w.heap.size + 1 + 1 + 1, 1, Option.none⟩) (by simp)]; simp [go_sem]
  · rw [h.frozen (p := ⟨w.heap.size + 1 + 1 + 1, 2, Option.none⟩) (by simp)]; simp [go_sem]
theorem own_six (asn : Int) (V : World) : (V.alloc (.cells #[.int .u8 65, .int .u8 4, .int .u8 (asn / 16777216 % 256), .int .u8 (asn / 65536 % 256), .int .u8 (asn / 256 % 256), .int .u8 (asn % 256)] 5)).ownsRow V.heap.size 5 1 (.slice (some ⟨V.heap.size, 0, none⟩) 6 6) 6 (bcells (65 :: 4 :: by4i asn)) := by
  rw [← cells6 asn]
  exact ⟨rfl, .inr ⟨V.heap.size, 6, _, rfl, Nat.le_refl _, by unfold World.alloc; exact Array.getElem?_push_size, Nat.le_refl _, by unfold maxLen; omega, rfl, rfl⟩⟩
set_option maxHeartbeats 1600000 in
theorem pcheck_four (c : Cf) (n pa : Int) (ia : Option Addr) (il ic : Nat) (oa : Option Addr) (ol oc : Nat) (o : Opn) (w : World) (h : o.four = false) :
    Calls Try.prog 11 #[cfV c, pcV n pa ia il ic oa ol oc, opV o] w fun e w' => ChkIs w' e c pa o ∧ Below w.heap.size w w' := by
  obtain ⟨asn, id, next, hold, gr, ll, stale, dfr⟩ := c
  obtain ⟨oa', oh, oi, o0, o1, o2, o3, o4, o5, o6, o7, o8⟩ := o
  simp only at h
  subst h
  simp only [cfV, opV, pcV]
  go_enter Try.func11, Try.ntmps11
  go_wp2_with fail
  refine (pfour_any _ _).mono ?_
  rintro e w1 ⟨rfl, rfl⟩
  go_wp2_with fail
  refine (prefuse_any _ _ _ _ _).mono ?_
  rintro e w2 ⟨rfl, hb2⟩
  have hV : ∀ V : World, V.heap.size = w.heap.size + 1 + 1 + 1 + 1 → Below (V.alloc (.cells #[.int .u8 65, .int .u8 4, .int .u8 (asn / 16777216 % 256), .int .u8 (asn / 65536 % 256), .int .u8 (asn / 256 % 256), .int .u8 (asn % 256)] 5)).heap.size (V.alloc (.cells #[.int .u8 65, .int .u8 4, .int .u8 (asn / 16777216 % 256), .int .u8 (asn / 65536 % 256), .int .u8 (asn / 256 % 256), .int .u8 (asn % 256)] 5)) w2 →
      w2.ownsRow (w.heap.size + 1 + 1 + 1 + 1) 5 1 (.slice (some ⟨w.heap.size + 1 + 1 + 1 + 1, 0, none⟩) 6 6) 6 (bcells (65 :: 4 :: by4i asn)) ∧ Below V.heap.size V w2 := fun V hs h =>
    ⟨by rw [← hs]; exact own_later (own_six asn V) h, Below.trans ((Below.refl _ _).alloc (Nat.le_refl _) _) (h.mono (by simp))⟩
  obtain ⟨ho, hb4⟩ := hV _ (by simp) hb2
  have HO := hide ho
  have HB : Hid (Below w.heap.size w w2) := ((((Below.refl _ _).alloc (Nat.le_refl _) _).alloc (by simp) _).alloc (by simp; omega) _).alloc (by simp; omega) _ |>.trans (hb4.mono (by simp; omega))
  have HE := hide (nb4 w _ _ _ w2 hb4)
  clear hV ho hb4 hb2
  obtain ⟨r0, r1, r2, f0, f1, f2, hz⟩ := HE.out
  go_wp2
  refine bodyPost_ret (v := .agg #[.int .i64 2, .int .i64 7, .slice (some ⟨w.heap.size + 1 + 1 + 1 + 1, 0, none⟩) 6 6]) (by simp [results, Try.results11, go_sem, r0, r1, r2]) rfl ⟨ChkIs.four rfl ?_, ((HB.out.setCell (by simp; omega) _).setCell (by simp; omega) _).setCell (by simp; omega) _⟩
  have ho := own_under (X := w.heap.size + 1 + 1 + 1) (own_under (X := w.heap.size + 1 + 1 + 1) (own_under (X := w.heap.size + 1 + 1 + 1) HO.out (by omega) 0 (.int .i64 2)) (by omega) 1 (.int .i64 7)) (by omega) 2 (.slice (some ⟨w.heap.size + 1 + 1 + 1 + 1, 0, none⟩) 6 6)
  obtain ⟨a8, c8, e8, _, hb⟩ := own_brd (bs := 65 :: 4 :: by4i asn) ho (by simp [by4i]) (six_lt asn)
  cases e8
  exact hb
set_option maxHeartbeats 1600000 in
theorem pcheck_any (c : Cf) (n pa : Int) (ia : Option Addr) (il ic : Nat) (oa : Option Addr) (ol oc : Nat) (o : Opn) (w : World) :
    Calls Try.prog 11 #[cfV c, pcV n pa ia il ic oa ol oc, opV o] w fun e w' => ChkIs w' e c pa o ∧ Below w.heap.size w w' := by
  by_cases h : o.four = false
  · exact pcheck_four c n pa ia il ic oa ol oc o w h
  have h4 : o.four = true := by simpa using h
  have K : ∀ k : Int, chkN c pa o = k → ∀ w', ChkIs w' (.returned (.agg #[.int .i64 (if k = 0 then 0 else 2), .int .i64 k, .slice none 0 0])) c pa o := fun k hk w' => ChkIs.none k hk h4
  unfold chkN at K
  rw [if_neg h] at K
  obtain ⟨asn, id, next, hold, gr, ll, stale, dfr⟩ := c
  obtain ⟨oa', oh, oi, o0, o1, o2, o3, o4, o5, o6, o7, o8⟩ := o
  simp only at h4 K
  subst h4
  clear h
  have hq : ∀ (w : World) o p q r w', Below ((((w.alloc o).alloc p).alloc q).alloc r).heap.size ((((w.alloc o).alloc p).alloc q).alloc r) w' → Below w.heap.size w w' := fun w o p q r w' h => Below.trans (((below_two w o p).alloc (by simp; omega) q).alloc (by simp; omega) r) (h.mono (by simp; omega))
  have hc : ∀ (w : World) o p q w', Below ((((w.alloc o).alloc p).alloc q).alloc (.cells #[.int .i64 0, .int .i64 0, .slice Option.none 0 0] 38)).heap.size ((((w.alloc o).alloc p).alloc q).alloc (.cells #[.int .i64 0, .int .i64 0, .slice Option.none 0 0] 38)) w' → 
      w'.cell? ⟨w.heap.size + 1 + 1 + 1, 0, Option.none⟩ = some (.int .i64 0) ∧ w'.cell? ⟨w.heap.size + 1 + 1 + 1, 1, Option.none⟩ = some (.int .i64 0) ∧ w'.cell? ⟨w.heap.size + 1 + 1 + 1, 2, Option.none⟩ = some (.slice Option.none 0 0) ∧
      w'.frozen? ⟨w.heap.size + 1 + 1 + 1, 0, Option.none⟩ = false ∧ w'.frozen? ⟨w.heap.size + 1 + 1 + 1, 1, Option.none⟩ = false ∧ w'.frozen? ⟨w.heap.size + 1 + 1 + 1, 2, Option.none⟩ = false ∧ w.heap.size + 1 + 1 + 1 < w'.heap.size := fun w o p q w' h => nb4 w o p q w' h
  have hb : ∀ (w : World) o p q r, Below w.heap.size w ((((w.alloc o).alloc p).alloc q).alloc r) := fun w o p q r => ((below_two w o p).alloc (by simp; omega) q).alloc (by simp; omega) r
  by_cases h1 : oa' = pa
  · rw [if_neg (by simp [h1])] at K
    by_cases h2 : oi = 0 ∨ oi = id
    · rw [if_pos h2] at K
      have HK := hide (K 3 rfl)
      clear K
      simp only [cfV, opV, pcV]
      subst h1
      by_cases h3 : oi = 0
      · subst h3
        clear h2
        go_enter Try.func11, Try.ntmps11
        go_wp2_with fail
        refine (prefuse_any _ _ _ _ _).mono ?_
        rintro e w1 ⟨rfl, hb1⟩
        have HB := hide (hq _ _ _ _ _ _ hb1)
        have HE := hide (hc _ _ _ _ _ hb1)
        clear hb1
        obtain ⟨r0, r1, r2, f0, f1, f2, hz⟩ := HE.out
        go_wp2
        refine bodyPost_ret (v := .agg #[.int .i64 2, .int .i64 3, .slice none 0 0]) (by simp [results, Try.results11, go_sem, r0, r1, r2]) rfl ⟨HK.out _, ((HB.out.setCell (by simp; omega) _).setCell (by simp; omega) _).setCell (by simp; omega) _⟩
      · have h5 : oi = id := by omega
        subst h5
        have h6 : ((oi : Int) == 0) = false := by simp; omega
        have h7 : ¬ (oi : Int) = 0 := by omega
        clear h2
        go_enter Try.func11, Try.ntmps11
        go_wp2_with fail
        refine (prefuse_any _ _ _ _ _).mono ?_
        rintro e w1 ⟨rfl, hb1⟩
        have HB := hide (hq _ _ _ _ _ _ hb1)
        have HE := hide (hc _ _ _ _ _ hb1)
        clear hb1
        obtain ⟨r0, r1, r2, f0, f1, f2, hz⟩ := HE.out
        go_wp2
        refine bodyPost_ret (v := .agg #[.int .i64 2, .int .i64 3, .slice none 0 0]) (by simp [results, Try.results11, go_sem, r0, r1, r2]) rfl ⟨HK.out _, ((HB.out.setCell (by simp; omega) _).setCell (by simp; omega) _).setCell (by simp; omega) _⟩
    · rw [if_neg h2] at K
      have h6 : ((oi : Int) == 0) = false := by simp; omega
      have h7 : ¬ (oi : Int) = 0 := by omega
      have h8 : ((oi : Int) == (id : Int)) = false := by simp; omega
      have h9 : ¬ (oi : Int) = (id : Int) := by omega
      have h10 : ¬ oi = 0 := by omega
      have h11 : ¬ oi = id := by omega
      clear h2
      subst h1
      by_cases h3 : oh = 1 ∨ oh = 2
      · rw [if_pos h3] at K
        have HK := hide (K 6 rfl)
        clear K
        simp only [cfV, opV, pcV]
        rcases h3 with rfl | rfl
        · go_enter Try.func11, Try.ntmps11
          go_wp2_with fail
          refine (prefuse_any _ _ _ _ _).mono ?_
          rintro e w1 ⟨rfl, hb1⟩
          have HB := hide (hq _ _ _ _ _ _ hb1)
          have HE := hide (hc _ _ _ _ _ hb1)
          clear hb1
          obtain ⟨r0, r1, r2, f0, f1, f2, hz⟩ := HE.out
          go_wp2
          refine bodyPost_ret (v := .agg #[.int .i64 2, .int .i64 6, .slice none 0 0]) (by simp [results, Try.results11, go_sem, r0, r1, r2]) rfl ⟨HK.out _, ((HB.out.setCell (by simp; omega) _).setCell (by simp; omega) _).setCell (by simp; omega) _⟩
        · go_enter Try.func11, Try.ntmps11
          go_wp2_with fail
          refine (prefuse_any _ _ _ _ _).mono ?_
          rintro e w1 ⟨rfl, hb1⟩
          have HB := hide (hq _ _ _ _ _ _ hb1)
          have HE := hide (hc _ _ _ _ _ hb1)
          clear hb1
          obtain ⟨r0, r1, r2, f0, f1, f2, hz⟩ := HE.out
          go_wp2
          refine bodyPost_ret (v := .agg #[.int .i64 2, .int .i64 6, .slice none 0 0]) (by simp [results, Try.results11, go_sem, r0, r1, r2]) rfl ⟨HK.out _, ((HB.out.setCell (by simp; omega) _).setCell (by simp; omega) _).setCell (by simp; omega) _⟩
      · rw [if_neg h3] at K
        have HK := hide (K 0 rfl)
        clear K
        simp only [cfV, opV, pcV]
        have h12 : ¬ oh = 1 := by omega
        have h13 : ¬ oh = 2 := by omega
        have h14 : (oh == 1) = false := by simp; omega
        have h15 : (oh == 2) = false := by simp; omega
        clear h3
        go_enter Try.func11, Try.ntmps11
        go_wp2
        refine bodyPost_ret (v := .agg #[.int .i64 0, .int .i64 0, .slice none 0 0]) (by simp [results, Try.results11, go_sem]) rfl ⟨HK.out _, hb _ _ _ _ _⟩
  · rw [if_pos h1] at K
    have HK := hide (K 2 rfl)
    clear K
    simp only [cfV, opV, pcV]
    have h2 : (oa' != pa) = true := by simpa using h1
    go_enter Try.func11, Try.ntmps11
    go_wp2_with fail
    refine (prefuse_any _ _ _ _ _).mono ?_
    rintro e w1 ⟨rfl, hb1⟩
    have HB := hide (hq _ _ _ _ _ _ hb1)
    have HE := hide (hc _ _ _ _ _ hb1)
    clear hb1
    obtain ⟨r0, r1, r2, f0, f1, f2, hz⟩ := HE.out
    go_wp2
    refine bodyPost_ret (v := .agg #[.int .i64 2, .int .i64 2, .slice none 0 0]) (by simp [results, Try.results11, go_sem, r0, r1, r2]) rfl ⟨HK.out _, ((HB.out.setCell (by simp; omega) _).setCell (by simp; omega) _).setCell (by simp; omega) _⟩
end Go.Proofs.Ytmpnnfbpknfekaa
