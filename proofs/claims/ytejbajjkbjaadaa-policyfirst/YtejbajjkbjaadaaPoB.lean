/- slices.IndexFunc over rules; the program's Apply. -/
import Derived.Test.YtejbajjkbjaadaaPoA
namespace Go.Proofs.Ytejbajjkbjaadaa
open Go.RowKit
set_option maxRecDepth 100000

/-- The place of the first that meets f, or -1. -/
def idxR (f : Rul → Bool) (l : List Rul) : Int := match l.findIdx? f with
  | some k => (k : Int)
  | none => -1
theorem idxR_none {f : Rul → Bool} {l : List Rul} (h : ∀ (i : Nat) (r : Rul), l[i]? = some r → f r = false) : idxR f l = -1 := by
  have e : l.findIdx? f = none := List.findIdx?_eq_none_iff.2 fun x hx => by
    obtain ⟨i, hi⟩ := List.mem_iff_getElem?.1 hx
    exact h i x hi
  unfold idxR
  rw [e]
theorem idxR_some {f : Rul → Bool} {l : List Rul} {k : Nat} {r : Rul} (hk : l[k]? = some r) (hf : f r = true) (h : ∀ (i : Nat) (r : Rul), i < k → l[i]? = some r → f r = false) : idxR f l = (k : Int) := by
  have hl := (List.getElem?_eq_some_iff.1 hk).1
  have e : l.findIdx? f = some k := List.findIdx?_eq_some_iff_getElem.2 ⟨hl, by rw [(List.getElem?_eq_some_iff.1 hk).2]; exact hf, fun j hj => by
    have := h j l[j] hj (List.getElem?_eq_getElem (by omega))
    simp [this]⟩
  unfold idxR
  rw [e]
set_option maxHeartbeats 400000 in
theorem idx_empty (a : Option Addr) (c k : Nat) (caps : Array Value) (f : Rul → Bool) (w : World) :
    Calls Try.prog 13 #[.slice a 0 c, .func (.func k) #[] caps] w fun e w' => e = .returned (.int .i64 (idxR f [])) ∧ Below w.heap.size w w' := by
  have HR : Hid ((-1 : Int) = idxR f []) := rfl
  go_enter Try.func13, Try.ntmps13
  go_wp2
  go_loopw [8] (fun i wq => i = .int .i64 0 ∧ wq = w) (fun i _ => 0 - (intOf i).toNat)
  case atStart => exact ⟨rfl, rfl⟩
  case round =>
    obtain ⟨rfl, rfl⟩ := hrel
    go_wp2
    go_ret
    exact ⟨ret_int HR.out, Below.refl _ _⟩
set_option maxHeartbeats 1600000 in
theorem idx_some (g o n c k : Nat) (caps : Array Value) (f : Rul → Bool) (l : List Rul) (w : World) (hn : n ≤ 1000) (hl : l.length = n) (hr : RulesRd w g o l)
    (hent : ∀ args w, (callFunc k args).run Try.prog w = .ok (.enter k args) w)
    (hcall : ∀ (i : Nat) (r : Rul), l[i]? = some r → ∀ w1, Below w.heap.size w w1 → Calls Try.prog k (#[ruleV r] ++ caps) w1 fun e w2 => e = .returned (.bool (f r)) ∧ Below w1.heap.size w1 w2) :
    Calls Try.prog 13 #[.slice (some ⟨g, o, none⟩) n c, .func (.func k) #[] caps] w fun e w' => e = .returned (.int .i64 (idxR f l)) ∧ Below w.heap.size w w' := by
  have HL := hide hl
  have HR := hide hr
  have HK := hide hcall
  clear hl hr hcall
  go_enter Try.func13, Try.ntmps13
  go_wp2
  go_loopw [8] (fun i wq => ∃ j : Nat, j ≤ n ∧ i = .int .i64 j ∧ Hid (∀ (q : Nat) (r : Rul), q < j → l[q]? = some r → f r = false) ∧ Hid (Below w.heap.size w wq)) (fun i _ => n - (intOf i).toNat)
  case atStart => exact ⟨0, Nat.zero_le _, rfl, fun q r hq => absurd hq (by omega), Below.refl _ _⟩
  case round =>
    obtain ⟨j, hj, rfl, HA, HB⟩ := hrel
    by_cases hlt : j < n
    · obtain ⟨r, hr⟩ : ∃ r, l[j]? = some r := ⟨l[j]'(by rw [HL.out]; exact hlt), List.getElem?_eq_getElem _⟩
      have R := (HR.out j r hr).1.below HB.out (Nat.le_refl _)
      have k0 := R.c0
      have k1 := R.c1
      have k2 := R.c2
      have k3 := R.c3
      have k4 := R.c4
      have k5 := R.c5
      have K := hide (HK.out j r hr wr HB.out)
      have HRJ := hide hr
      clear hr R
      have hk0 : (0 : Int) ≤ (j : Int) := Int.natCast_nonneg _
      have hk1 : (j : Int) < (n : Int) := by omega
      unfold ruleV at K
      go_wp2_with fail
      refine K.out.mono ?_
      rintro e w2 ⟨rfl, hb2⟩
      have HB2 : Hid (Below w.heap.size w w2) := HB.out.trans (hb2.mono HB.out.size)
      clear hb2 k0 k1 k2 k3 k4 k5 K
      cases hf : f r with
      | true =>
        have HI : Hid ((j : Int) = idxR f l) := (idxR_some HRJ.out hf HA.out).symm
        clear hf
        go_wp2
        go_ret
        exact ⟨ret_int HI.out, HB2.out⟩
      | false =>
        have HI : Hid (∀ (q : Nat) (r : Rul), q < j + 1 → l[q]? = some r → f r = false) := fun q r' hq hr' => by
          by_cases e : q = j
          · subst e
            have := HRJ.out
            rw [hr'] at this
            cases this
            exact hf
          · exact HA.out q r' (by omega) hr'
        clear hf
        go_wp2
        exact ⟨⟨j + 1, by omega, by go_num, HI, HB2⟩, by simp [intOf]; omega⟩
    · have HI : Hid ((-1 : Int) = idxR f l) := (idxR_none fun q r hr => HA.out q r (by have := (List.getElem?_eq_some_iff.1 hr).1; rw [HL.out] at this; omega) hr).symm
      go_wp2
      go_ret
      exact ⟨ret_int HI.out, HB.out⟩
theorem none_more {f : Rul → Bool} {l : List Rul} {j : Nat} {r : Rul} (h : ∀ (q : Nat) (r : Rul), q < j → l[q]? = some r → f r = false) (hr : l[j]? = some r) (hf : f r = false) : ∀ (q : Nat) (r : Rul), q < j + 1 → l[q]? = some r → f r = false := fun q r' hq hr' => by
  by_cases e : q = j
  · subst e
    rw [hr'] at hr
    cases hr
    exact hf
  · exact h q r' (by omega) hr'
/-- A list of rules as it is handed in: nothing, or from an address on. -/
def RulesIn (w : World) (a : Option Addr) (l : List Rul) : Prop := l = [] ∨ ∃ g o, a = some ⟨g, o, none⟩ ∧ RulesRd w g o l
theorem RulesIn.below {w w' : World} {a : Option Addr} {l : List Rul} {B : Nat} (h : RulesIn w a l) (hb : Below B w w') (hB : w.heap.size ≤ B) : RulesIn w' a l := by
  rcases h with h | ⟨g, o, e, h⟩
  · exact .inl h
  · exact .inr ⟨g, o, e, h.below hb hB⟩
theorem RulesIn.lt {w : World} {a : Option Addr} {l : List Rul} (h : RulesIn w a l) : ∀ (i : Nat) (r : Rul), l[i]? = some r → r.A < 4294967296 := by
  intro i r hr
  rcases h with h | ⟨g, o, e, h⟩
  · rw [h] at hr; simp at hr
  · exact (h i r hr).2
theorem idx_any (a : Option Addr) (n c k : Nat) (caps : Array Value) (f : Rul → Bool) (l : List Rul) (w : World) (hn : n ≤ 1000) (hl : l.length = n) (hr : RulesIn w a l)
    (hent : ∀ args w, (callFunc k args).run Try.prog w = .ok (.enter k args) w)
    (hcall : ∀ (i : Nat) (r : Rul), l[i]? = some r → ∀ w1, Below w.heap.size w w1 → Calls Try.prog k (#[ruleV r] ++ caps) w1 fun e w2 => e = .returned (.bool (f r)) ∧ Below w1.heap.size w1 w2) :
    Calls Try.prog 13 #[.slice a n c, .func (.func k) #[] caps] w fun e w' => e = .returned (.int .i64 (idxR f l)) ∧ Below w.heap.size w w' := by
  rcases hr with h | ⟨g, o, e, h⟩
  · subst h
    simp at hl
    subst hl
    exact idx_empty a c k caps f w
  · subst e
    exact idx_some g o n c k caps f l w hn hl h hent hcall
/-- What the first rule that speaks of A/L tells. -/
def applyR (l : List Rul) (A : Nat) (L : Int) : Int × Bool := match l.find? (spk A L) with
  | some r => if r.d then (0, false) else (r.pf, true)
  | none => (-1, true)
theorem applyR_none {l : List Rul} {A : Nat} {L : Int} (h : ∀ (i : Nat) (r : Rul), l[i]? = some r → spk A L r = false) : applyR l A L = (-1, true) := by
  have e : l.find? (spk A L) = none := List.find?_eq_none.2 fun x hx => by
    obtain ⟨i, hi⟩ := List.mem_iff_getElem?.1 hx
    simp [h i x hi]
  unfold applyR
  rw [e]
theorem applyR_some {l : List Rul} {A : Nat} {L : Int} {k : Nat} {r : Rul} (hk : l[k]? = some r) (hf : spk A L r = true) (h : ∀ (i : Nat) (r : Rul), i < k → l[i]? = some r → spk A L r = false) : applyR l A L = if r.d then (0, false) else (r.pf, true) := by
  have hl := (List.getElem?_eq_some_iff.1 hk).1
  have e : l.find? (spk A L) = some r := List.find?_eq_some_iff_getElem.2 ⟨hf, k, hl, (List.getElem?_eq_some_iff.1 hk).2, fun j hj => by
    simp [h j l[j] hj (List.getElem?_eq_getElem (by omega))]⟩
  unfold applyR
  rw [e]
/-- The first that meets f, or none. -/
theorem first_or (f : Rul → Bool) (l : List Rul) : (∀ (i : Nat) (r : Rul), l[i]? = some r → f r = false) ∨ ∃ k r, l[k]? = some r ∧ f r = true ∧ ∀ (i : Nat) (r : Rul), i < k → l[i]? = some r → f r = false := by
  cases h : l.findIdx? f with
  | none =>
    left
    intro i r hr
    exact List.findIdx?_eq_none_iff.1 h r (List.mem_iff_getElem?.2 ⟨i, hr⟩)
  | some k =>
    right
    obtain ⟨hl, hf, hj⟩ := List.findIdx?_eq_some_iff_getElem.1 h
    refine ⟨k, l[k], List.getElem?_eq_getElem hl, hf, fun i r hi hr => ?_⟩
    have e := hj i hi
    rw [(List.getElem?_eq_some_iff.1 hr).2] at e
    simpa using e
theorem ret_two {a b : Int} {x y : Bool} (h : (a, x) = (b, y)) : Value.tuple #[.int .i64 a, .bool x] = .tuple #[.int .i64 b, .bool y] := by
  injection h with h1 h2
  rw [h1, h2]
set_option maxHeartbeats 1600000 in
theorem apply_any (a : Option Addr) (n c A : Nat) (L : Int) (l : List Rul) (w : World) (hn : n ≤ 1000) (hl : l.length = n) (hr : RulesIn w a l) (hA : A < 4294967296) :
    Calls Try.prog 7 #[.slice a n c, pfx A L] w fun e w' => e = .returned (.tuple #[.int .i64 (applyR l A L).1, .bool (applyR l A L).2]) ∧ Below w.heap.size w w' := by
  have hbw : Below w.heap.size w (w.alloc (.cells #[.int .u32 (A : Int), .int .i64 L] 25)) := (Below.refl _ _).alloc (Nat.le_refl _) _
  have hbv : Below w.heap.size w ((w.alloc (.cells #[.int .u32 (A : Int), .int .i64 L] 25)).alloc (.cells #[.int .u32 (A : Int), .int .i64 L] 25)) := hbw.alloc (by simp) _
  have K := hide (idx_any a n c 19 #[.pointer (some ⟨w.heap.size + 1, 0, none⟩)] (spk A L) l _ hn hl (hr.below hbv (Nat.le_refl _)) Try.call19 (fun i r hir w1 hb1 => speaks1_any r A (w.heap.size + 1) L w1 (hr.lt i r hir) hA
    (by rw [hb1.cell (p := ⟨w.heap.size + 1, 0, none⟩) (by simp)]; simp [go_sem]) (by rw [hb1.cell (p := ⟨w.heap.size + 1, 1, none⟩) (by simp)]; simp [go_sem])))
  have HB := hide hbv
  have HRI := hide hr
  clear hbw hbv hr
  unfold pfx
  rcases first_or (spk A L) l with h | ⟨k, r, hk, hf, h⟩
  · rw [idxR_none h] at K
    rw [applyR_none h]
    clear h
    go_enter Try.func7, Try.ntmps7
    go_wp2_with fail
    refine (speaks_any A L _).mono ?_
    rintro e w1 ⟨rfl, rfl⟩
    go_wp2_with fail
    refine K.out.mono ?_
    rintro e w2 ⟨rfl, hb2⟩
    have HB2 : Hid (Below w.heap.size w w2) := HB.out.trans (hb2.mono (by simp <;> omega))
    clear hb2
    go_wp2
    exact bodyPost_ret (v := .tuple #[.int .i64 (-1), .bool true]) (by simp [results, Try.results7, go_sem]) rfl ⟨rfl, HB2.out⟩
  · rw [idxR_some hk hf h] at K
    rw [applyR_some hk hf h]
    have hkn : k < n := by have := (List.getElem?_eq_some_iff.1 hk).1; omega
    have HKR := hide hk
    clear h hf hk
    rcases HRI.out with e | ⟨g, o, rfl, hrd⟩
    · exfalso
      have := HKR.out
      rw [e] at this
      simp at this
    · have R := (hrd k r HKR.out).1
      have HRR := hide R
      clear hrd R HRI
      have hk0 : (0 : Int) ≤ (k : Int) := Int.natCast_nonneg _
      have hk1 : (k : Int) < (n : Int) := by omega
      have dk : decide ((k : Int) < 0) = false := decide_eq_false (by omega)
      cases hd : r.d with
      | true =>
        go_enter Try.func7, Try.ntmps7
        go_wp2_with fail
        refine (speaks_any A L _).mono ?_
        rintro e w1 ⟨rfl, rfl⟩
        go_wp2_with fail
        refine K.out.mono ?_
        rintro e w2 ⟨rfl, hb2⟩
        have HB2 : Hid (Below w.heap.size w w2) := HB.out.trans (hb2.mono (by simp <;> omega))
        clear hb2
        have k4 := (HRR.out.below HB2.out (Nat.le_refl _)).c4
        rw [hd] at k4
        go_wp2
        exact bodyPost_ret (v := .tuple #[.int .i64 0, .bool false]) (by simp [results, Try.results7, go_sem]) rfl ⟨rfl, HB2.out⟩
      | false =>
        go_enter Try.func7, Try.ntmps7
        go_wp2_with fail
        refine (speaks_any A L _).mono ?_
        rintro e w1 ⟨rfl, rfl⟩
        go_wp2_with fail
        refine K.out.mono ?_
        rintro e w2 ⟨rfl, hb2⟩
        have HB2 : Hid (Below w.heap.size w w2) := HB.out.trans (hb2.mono (by simp <;> omega))
        clear hb2
        have k4 := (HRR.out.below HB2.out (Nat.le_refl _)).c4
        have k5 := (HRR.out.below HB2.out (Nat.le_refl _)).c5
        rw [hd] at k4
        go_wp2
        exact bodyPost_ret (v := .tuple #[.int .i64 r.pf, .bool true]) (by simp [results, Try.results7, go_sem]) rfl ⟨rfl, HB2.out⟩
end Go.Proofs.Ytejbajjkbjaadaa
