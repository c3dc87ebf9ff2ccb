/- Rules in plain numbers; the program's fromTo, speaksOf, isRight. -/
import Derived.Test.YthigjonagbfbbaaDoorKAn
namespace Go.Proofs.YthigjonagbfbbaaDoor
open Go.RowKit
set_option maxRecDepth 100000

theorem pcovers_any (A B : Nat) (L M : Int) (w : World) (hA : A < 4294967296) (hB : B < 4294967296) :
    Calls Tryd.prog 74 #[pfx A L, pfx B M] w fun e w' => e = .returned (.bool (covB A L B M)) ∧ Below w.heap.size w w' := by
  cases h : rightB A L with
  | false => rw [covB_left h]; exact covers_no A B L M w hA h
  | true =>
    obtain ⟨n, rfl, hn, _⟩ := rightB_len h
    exact covers_yes A n B M w hA hB h hn
theorem pcovers_is {A B : Nat} {L M : Int} {y : Bool} (w : World) (hA : A < 4294967296) (hB : B < 4294967296) (hy : covB A L B M = y) :
    Calls Tryd.prog 74 #[pfx A L, pfx B M] w fun e w' => e = .returned (.bool y) ∧ Below w.heap.size w w' := by
  rw [← hy]
  exact pcovers_any A B L M w hA hB
theorem covB_self (A : Nat) (L : Int) : covB A L A L = rightB A L := by
  cases h : rightB A L with
  | false => simp [covB, h]
  | true =>
    obtain ⟨n, rfl, hn, hc⟩ := rightB_len h
    rw [covB_both h h (Int.le_refl _), hc]
    simp
/-- A rule. -/
structure Rul where
  A : Nat
  L : Int
  mn : Int
  mx : Int
  d : Bool
  pf : Int
def ruleV (r : Rul) : Value := .agg #[.int .u32 (r.A : Int), .int .i64 r.L, .int .i64 r.mn, .int .i64 r.mx, .bool r.d, .int .i64 r.pf]
/-- A rule's six cells, from an offset on. -/
structure RulAt (w : World) (g o : Nat) (r : Rul) : Prop where
  c0 : w.cell? ⟨g, o, none⟩ = some (.int .u32 (r.A : Int))
  c1 : w.cell? ⟨g, o + 1, none⟩ = some (.int .i64 r.L)
  c2 : w.cell? ⟨g, o + 2, none⟩ = some (.int .i64 r.mn)
  c3 : w.cell? ⟨g, o + 3, none⟩ = some (.int .i64 r.mx)
  c4 : w.cell? ⟨g, o + 4, none⟩ = some (.bool r.d)
  c5 : w.cell? ⟨g, o + 5, none⟩ = some (.int .i64 r.pf)
theorem RulAt.lt {w : World} {g o : Nat} {r : Rul} (h : RulAt w g o r) : g < w.heap.size := World.block_lt_of_cell? w _ h.c0
theorem RulAt.below {w w' : World} {g o B : Nat} {r : Rul} (h : RulAt w g o r) (hb : Below B w w') (hB : w.heap.size ≤ B) : RulAt w' g o r := by
  have k := Nat.lt_of_lt_of_le h.lt hB
  exact ⟨by rw [hb.cell (p := ⟨g, o, none⟩) k]; exact h.c0, by rw [hb.cell (p := ⟨g, o + 1, none⟩) k]; exact h.c1, by rw [hb.cell (p := ⟨g, o + 2, none⟩) k]; exact h.c2, by rw [hb.cell (p := ⟨g, o + 3, none⟩) k]; exact h.c3, by rw [hb.cell (p := ⟨g, o + 4, none⟩) k]; exact h.c4, by rw [hb.cell (p := ⟨g, o + 5, none⟩) k]; exact h.c5⟩
/-- Rules that are read. -/
def RulesRd (w : World) (g o : Nat) (l : List Rul) : Prop := ∀ i r, l[i]? = some r → RulAt w g (o + i * 6) r ∧ r.A < 4294967296
theorem RulesRd.below {w w' : World} {g o B : Nat} {l : List Rul} (h : RulesRd w g o l) (hb : Below B w w') (hB : w.heap.size ≤ B) : RulesRd w' g o l :=
  fun i r hr => ⟨(h i r hr).1.below hb hB, (h i r hr).2⟩
/-- Is n from lo to hi? -/
def ftB (lo hi n : Int) : Bool := decide (lo ≤ n) && decide (n ≤ hi)
theorem ftB_no {lo hi n : Int} (h : decide (lo ≤ n) = false) : false = ftB lo hi n := by unfold ftB; rw [h]; rfl
theorem ftB_go {lo hi n : Int} (h : lo ≤ n) : decide (n ≤ hi) = ftB lo hi n := by unfold ftB; rw [decide_eq_true h]; rfl
/-- Does r speak of A/L? -/
def spk (A : Nat) (L : Int) (r : Rul) : Bool := covB r.A r.L A L && ftB r.mn r.mx L
set_option maxHeartbeats 400000 in
theorem fromto_any (lo hi : Int) (w : World) : Calls Tryd.prog 73 #[.int .i64 lo, .int .i64 hi] w fun e w' => e = .returned (.func (.func 85) #[] #[.pointer (some ⟨w.heap.size, 0, none⟩), .pointer (some ⟨w.heap.size + 1, 0, none⟩)]) ∧ w' = (w.alloc (.cells #[.int .i64 lo] 3)).alloc (.cells #[.int .i64 hi] 3) := by
  go_enter Tryd.func73, Tryd.ntmps73
  go_wp2
  go_ret
  exact ⟨rfl, rfl⟩
set_option maxHeartbeats 400000 in
theorem fromto1_any (lo hi n : Int) (x y : Nat) (w : World) (hx : w.cell? ⟨x, 0, none⟩ = some (.int .i64 lo)) (hy : w.cell? ⟨y, 0, none⟩ = some (.int .i64 hi)) :
    Calls Tryd.prog 85 #[.int .i64 n, .pointer (some ⟨x, 0, none⟩), .pointer (some ⟨y, 0, none⟩)] w fun e w' => e = .returned (.bool (ftB lo hi n)) ∧ w' = w := by
  by_cases h : lo ≤ n
  · have HR := hide (ftB_go (hi := hi) h)
    go_enter Tryd.func85, Tryd.ntmps85
    go_wp2
    go_ret
    exact ⟨ret_bool HR.out, rfl⟩
  · have hd : decide (lo ≤ n) = false := decide_eq_false h
    have HR := hide (ftB_no (hi := hi) hd)
    clear h
    go_enter Tryd.func85, Tryd.ntmps85
    go_wp2
    go_ret
    exact ⟨ret_bool HR.out, rfl⟩
theorem fromto1_is {lo hi n : Int} {b : Bool} {x y : Nat} (w : World) (hx : w.cell? ⟨x, 0, none⟩ = some (.int .i64 lo)) (hy : w.cell? ⟨y, 0, none⟩ = some (.int .i64 hi)) (hb : ftB lo hi n = b) :
    Calls Tryd.prog 85 #[.int .i64 n, .pointer (some ⟨x, 0, none⟩), .pointer (some ⟨y, 0, none⟩)] w fun e w' => e = .returned (.bool b) ∧ w' = w := by
  rw [← hb]
  exact fromto1_any lo hi n x y w hx hy
set_option maxHeartbeats 400000 in
theorem speaks_any (A : Nat) (L : Int) (w : World) : Calls Tryd.prog 57 #[pfx A L] w fun e w' => e = .returned (.func (.func 72) #[] #[.pointer (some ⟨w.heap.size, 0, none⟩)]) ∧ w' = w.alloc (.cells #[.int .u32 (A : Int), .int .i64 L] 29) := by
  unfold pfx
  go_enter Tryd.func57, Tryd.ntmps57
  go_wp2
  go_ret
  exact ⟨rfl, rfl⟩
/-- A rule's box, and the two numbers of its bounds. -/
theorem box_rule (w : World) (r : Rul) (t : TypeId) : RulAt (w.alloc (.cells #[.int .u32 (r.A : Int), .int .i64 r.L, .int .i64 r.mn, .int .i64 r.mx, .bool r.d, .int .i64 r.pf] t)) w.heap.size 0 r := by
  refine ⟨?_, ?_, ?_, ?_, ?_, ?_⟩ <;> simp [go_sem]
set_option maxHeartbeats 1600000 in
theorem speaks1_any (r : Rul) (A x : Nat) (L : Int) (w : World) (hr : r.A < 4294967296) (hA : A < 4294967296) (h0 : w.cell? ⟨x, 0, none⟩ = some (.int .u32 (A : Int))) (h1 : w.cell? ⟨x, 1, none⟩ = some (.int .i64 L)) :
    Calls Tryd.prog 72 #[ruleV r, .pointer (some ⟨x, 0, none⟩)] w fun e w' => e = .returned (.bool (spk A L r)) ∧ Below w.heap.size w w' := by
  have hx := World.block_lt_of_cell? w _ h0
  simp only at hx
  unfold ruleV
  cases hc : covB r.A r.L A L with
  | true =>
    have HS : Hid (ftB r.mn r.mx L = spk A L r) := by show _ = _; unfold spk; rw [hc]; rfl
    have HC := hide hc
    clear hc
    go_enter Tryd.func72, Tryd.ntmps72
    go_wp2_with fail
    refine (fromto_any r.mn r.mx _).mono ?_
    rintro e w1 ⟨rfl, hw⟩
    have R1 : RulAt w1 w.heap.size 0 r := by rw [hw]; exact ((box_rule w r 95).below ((Below.refl _ _).alloc (Nat.le_refl _) _) (Nat.le_refl _)).below ((Below.refl _ _).alloc (Nat.le_refl _) _) (Nat.le_refl _)
    have z1 : w1.heap.size = w.heap.size + 3 := by rw [hw]; simp
    have HB1 : Hid (Below w.heap.size w w1) := by show Below _ _ _; rw [hw]; exact (((Below.refl _ _).alloc (Nat.le_refl _) _).alloc (by simp) _).alloc (by simp <;> omega) _
    have p0 : w1.cell? ⟨x, 0, none⟩ = some (.int .u32 (A : Int)) := by rw [HB1.out.cell (p := ⟨x, 0, none⟩) hx]; exact h0
    have p1 : w1.cell? ⟨x, 1, none⟩ = some (.int .i64 L) := by rw [HB1.out.cell (p := ⟨x, 1, none⟩) hx]; exact h1
    have f0 : w1.cell? ⟨(w.alloc (.cells #[.int .u32 (r.A : Int), .int .i64 r.L, .int .i64 r.mn, .int .i64 r.mx, .bool r.d, .int .i64 r.pf] 95)).heap.size, 0, none⟩ = some (.int .i64 r.mn) := by rw [hw]; simp [go_sem]
    have f1 : w1.cell? ⟨(w.alloc (.cells #[.int .u32 (r.A : Int), .int .i64 r.L, .int .i64 r.mn, .int .i64 r.mx, .bool r.d, .int .i64 r.pf] 95)).heap.size + 1, 0, none⟩ = some (.int .i64 r.mx) := by rw [hw]; simp [go_sem]
    have k0 := R1.c0
    have k1 := R1.c1
    clear hw
    generalize (w.alloc (.cells #[.int .u32 (r.A : Int), .int .i64 r.L, .int .i64 r.mn, .int .i64 r.mx, .bool r.d, .int .i64 r.pf] 95)).heap.size = S at *
    have ec := Tryd.call85
    go_wp2_with fail
    refine (pcovers_is w1 hr hA HC.out).mono ?_
    rintro e w2 ⟨rfl, hb2⟩
    have q1 : w2.cell? ⟨x, 1, none⟩ = some (.int .i64 L) := by rw [hb2.cell (p := ⟨x, 1, none⟩) (World.block_lt_of_cell? w1 _ p1)]; exact p1
    have g0 : w2.cell? ⟨S, 0, none⟩ = some (.int .i64 r.mn) := by rw [hb2.cell (p := ⟨S, 0, none⟩) (World.block_lt_of_cell? w1 _ f0)]; exact f0
    have g1 : w2.cell? ⟨S + 1, 0, none⟩ = some (.int .i64 r.mx) := by rw [hb2.cell (p := ⟨S + 1, 0, none⟩) (World.block_lt_of_cell? w1 _ f1)]; exact f1
    have HB2 : Hid (Below w.heap.size w w2) := HB1.out.trans (hb2.mono HB1.out.size)
    clear hb2
    go_wp2_with fail
    refine (fromto1_is w2 g0 g1 HS.out).mono ?_
    rintro e w3 ⟨rfl, rfl⟩
    go_wp2
    go_ret
    exact ⟨rfl, HB2.out⟩
  | false =>
    have HS : Hid (false = spk A L r) := by show _ = _; unfold spk; rw [hc]; rfl
    have HC := hide hc
    clear hc
    go_enter Tryd.func72, Tryd.ntmps72
    go_wp2_with fail
    refine (fromto_any r.mn r.mx _).mono ?_
    rintro e w1 ⟨rfl, hw⟩
    have R1 : RulAt w1 w.heap.size 0 r := by rw [hw]; exact ((box_rule w r 95).below ((Below.refl _ _).alloc (Nat.le_refl _) _) (Nat.le_refl _)).below ((Below.refl _ _).alloc (Nat.le_refl _) _) (Nat.le_refl _)
    have HB1 : Hid (Below w.heap.size w w1) := by show Below _ _ _; rw [hw]; exact (((Below.refl _ _).alloc (Nat.le_refl _) _).alloc (by simp) _).alloc (by simp <;> omega) _
    have p0 : w1.cell? ⟨x, 0, none⟩ = some (.int .u32 (A : Int)) := by rw [HB1.out.cell (p := ⟨x, 0, none⟩) hx]; exact h0
    have p1 : w1.cell? ⟨x, 1, none⟩ = some (.int .i64 L) := by rw [HB1.out.cell (p := ⟨x, 1, none⟩) hx]; exact h1
    have k0 := R1.c0
    have k1 := R1.c1
    clear hw
    generalize (w.alloc (.cells #[.int .u32 (r.A : Int), .int .i64 r.L, .int .i64 r.mn, .int .i64 r.mx, .bool r.d, .int .i64 r.pf] 95)).heap.size = S at *
    go_wp2_with fail
    refine (pcovers_is w1 hr hA HC.out).mono ?_
    rintro e w2 ⟨rfl, hb2⟩
    have HB2 : Hid (Below w.heap.size w w2) := HB1.out.trans (hb2.mono HB1.out.size)
    clear hb2
    go_wp2
    go_ret
    exact ⟨ret_bool HS.out, HB2.out⟩
end Go.Proofs.YthigjonagbfbbaaDoor
/- slices.IndexFunc over rules; the program's Apply. -/
namespace Go.Proofs.YthigjonagbfbbaaDoor
open Go.RowKit
set_option maxRecDepth 100000

/-- The place of the first that meets f, or -1. -/
def idxR (f : Rul → Bool) (l : List Rul) : Int := match l.findIdx? f with
  | some k => (k : Int)
  | none => -1
theorem idxR_none {f : Rul → Bool} {l : List Rul} (h : ∀ (i : Nat) (r : Rul), l[i]? = some r → f r = false) : idxR f l = -1 := by
  have e : l.findIdx? f = none := List.findIdx?_eq_none_iff.2 fun x hx => by
    obtain ⟨i, hi⟩ := List.mem_iff_getElem?.1 hx
    exact h i x hi
  unfold idxR
  rw [e]
theorem idxR_some {f : Rul → Bool} {l : List Rul} {k : Nat} {r : Rul} (hk : l[k]? = some r) (hf : f r = true) (h : ∀ (i : Nat) (r : Rul), i < k → l[i]? = some r → f r = false) : idxR f l = (k : Int) := by
  have hl := (List.getElem?_eq_some_iff.1 hk).1
  have e : l.findIdx? f = some k := List.findIdx?_eq_some_iff_getElem.2 ⟨hl, by rw [(List.getElem?_eq_some_iff.1 hk).2]; exact hf, fun j hj => by
    have := h j l[j] hj (List.getElem?_eq_getElem (by omega))
    simp [this]⟩
  unfold idxR
  rw [e]
set_option maxHeartbeats 400000 in
theorem idx_empty (a : Option Addr) (c k : Nat) (caps : Array Value) (f : Rul → Bool) (w : World) :
    Calls Tryd.prog 56 #[.slice a 0 c, .func (.func k) #[] caps] w fun e w' => e = .returned (.int .i64 (idxR f [])) ∧ Below w.heap.size w w' := by
  have HR : Hid ((-1 : Int) = idxR f []) := rfl
  go_enter Tryd.func56, Tryd.ntmps56
  go_wp2
  go_loopw [8] (fun i wq => i = .int .i64 0 ∧ wq = w) (fun i _ => 0 - (intOf i).toNat)
  case atStart => exact ⟨rfl, rfl⟩
  case round =>
    obtain ⟨rfl, rfl⟩ := hrel
    go_wp2
    go_ret
    exact ⟨ret_int HR.out, Below.refl _ _⟩
set_option maxHeartbeats 1600000 in
theorem idx_some (g o n c k : Nat) (caps : Array Value) (f : Rul → Bool) (l : List Rul) (w : World) (hn : n ≤ 1000) (hl : l.length = n) (hr : RulesRd w g o l)
    (hent : ∀ args w, (callFunc k args).run Tryd.prog w = .ok (.enter k args) w)
    (hcall : ∀ (i : Nat) (r : Rul), l[i]? = some r → ∀ w1, Below w.heap.size w w1 → Calls Tryd.prog k (#[ruleV r] ++ caps) w1 fun e w2 => e = .returned (.bool (f r)) ∧ Below w1.heap.size w1 w2) :
    Calls Tryd.prog 56 #[.slice (some ⟨g, o, none⟩) n c, .func (.func k) #[] caps] w fun e w' => e = .returned (.int .i64 (idxR f l)) ∧ Below w.heap.size w w' := by
  have HL := hide hl
  have HR := hide hr
  have HK := hide hcall
  clear hl hr hcall
  go_enter Tryd.func56, Tryd.ntmps56
  go_wp2
  go_loopw [8] (fun i wq => ∃ j : Nat, j ≤ n ∧ i = .int .i64 j ∧ Hid (∀ (q : Nat) (r : Rul), q < j → l[q]? = some r → f r = false) ∧ Hid (Below w.heap.size w wq)) (fun i _ => n - (intOf i).toNat)
  case atStart => exact ⟨0, Nat.zero_le _, rfl, fun q r hq => absurd hq (by omega), Below.refl _ _⟩
  case round =>
    obtain ⟨j, hj, rfl, HA, HB⟩ := hrel
    by_cases hlt : j < n
    · obtain ⟨r, hr⟩ : ∃ r, l[j]? = some r := ⟨l[j]'(by rw [HL.out]; exact hlt), List.getElem?_eq_getElem _⟩
      have R := (HR.out j r hr).1.below HB.out (Nat.le_refl _)
      have k0 := R.c0
      have k1 := R.c1
      have k2 := R.c2
      have k3 := R.c3
      have k4 := R.c4
      have k5 := R.c5
      have K := hide (HK.out j r hr wr HB.out)
      have HRJ := hide hr
      clear hr R
      have hk0 : (0 : Int) ≤ (j : Int) := Int.natCast_nonneg _
      have hk1 : (j : Int) < (n : Int) := by omega
      unfold ruleV at K
      go_wp2_with fail
      refine K.out.mono ?_
      rintro e w2 ⟨rfl, hb2⟩
      have HB2 : Hid (Below w.heap.size w w2) := HB.out.trans (hb2.mono HB.out.size)
      clear hb2 k0 k1 k2 k3 k4 k5 K
      cases hf : f r with
      | true =>
        have HI : Hid ((j : Int) = idxR f l) := (idxR_some HRJ.out hf HA.out).symm
        clear hf
        go_wp2
        go_ret
        exact ⟨ret_int HI.out, HB2.out⟩
      | false =>
        have HI : Hid (∀ (q : Nat) (r : Rul), q < j + 1 → l[q]? = some r → f r = false) := fun q r' hq hr' => by
          by_cases e : q = j
          · subst e
            have := HRJ.out
            rw [hr'] at this
            cases this
            exact hf
          · exact HA.out q r' (by omega) hr'
        clear hf
        go_wp2
        exact ⟨⟨j + 1, by omega, by go_num, HI, HB2⟩, by simp [intOf]; omega⟩
    · have HI : Hid ((-1 : Int) = idxR f l) := (idxR_none fun q r hr => HA.out q r (by have := (List.getElem?_eq_some_iff.1 hr).1; rw [HL.out] at this; omega) hr).symm
      go_wp2
      go_ret
      exact ⟨ret_int HI.out, HB.out⟩
theorem none_more {f : Rul → Bool} {l : List Rul} {j : Nat} {r : Rul} (h : ∀ (q : Nat) (r : Rul), q < j → l[q]? = some r → f r = false) (hr : l[j]? = some r) (hf : f r = false) : ∀ (q : Nat) (r : Rul), q < j + 1 → l[q]? = some r → f r = false := fun q r' hq hr' => by
  by_cases e : q = j
  · subst e
    rw [hr'] at hr
    cases hr
    exact hf
  · exact h q r' (by omega) hr'
/-- A list of rules as it is handed in: nothing, or from an address on. -/
def RulesIn (w : World) (a : Option Addr) (l : List Rul) : Prop := l = [] ∨ ∃ g o, a = some ⟨g, o, none⟩ ∧ RulesRd w g o l
theorem RulesIn.below {w w' : World} {a : Option Addr} {l : List Rul} {B : Nat} (h : RulesIn w a l) (hb : Below B w w') (hB : w.heap.size ≤ B) : RulesIn w' a l := by
  rcases h with h | ⟨g, o, e, h⟩
  · exact .inl h
  · exact .inr ⟨g, o, e, h.below hb hB⟩
theorem RulesIn.lt {w : World} {a : Option Addr} {l : List Rul} (h : RulesIn w a l) : ∀ (i : Nat) (r : Rul), l[i]? = some r → r.A < 4294967296 := by
  intro i r hr
  rcases h with h | ⟨g, o, e, h⟩
  · rw [h] at hr; simp at hr
  · exact (h i r hr).2
theorem idx_any (a : Option Addr) (n c k : Nat) (caps : Array Value) (f : Rul → Bool) (l : List Rul) (w : World) (hn : n ≤ 1000) (hl : l.length = n) (hr : RulesIn w a l)
    (hent : ∀ args w, (callFunc k args).run Tryd.prog w = .ok (.enter k args) w)
    (hcall : ∀ (i : Nat) (r : Rul), l[i]? = some r → ∀ w1, Below w.heap.size w w1 → Calls Tryd.prog k (#[ruleV r] ++ caps) w1 fun e w2 => e = .returned (.bool (f r)) ∧ Below w1.heap.size w1 w2) :
    Calls Tryd.prog 56 #[.slice a n c, .func (.func k) #[] caps] w fun e w' => e = .returned (.int .i64 (idxR f l)) ∧ Below w.heap.size w w' := by
  rcases hr with h | ⟨g, o, e, h⟩
  · subst h
    simp at hl
    subst hl
    exact idx_empty a c k caps f w
  · subst e
    exact idx_some g o n c k caps f l w hn hl h hent hcall
/-- What the first rule that speaks of A/L tells. -/
def applyR (l : List Rul) (A : Nat) (L : Int) : Int × Bool := match l.find? (spk A L) with
  | some r => if r.d then (0, false) else (r.pf, true)
  | none => (-1, true)
theorem applyR_none {l : List Rul} {A : Nat} {L : Int} (h : ∀ (i : Nat) (r : Rul), l[i]? = some r → spk A L r = false) : applyR l A L = (-1, true) := by
  have e : l.find? (spk A L) = none := List.find?_eq_none.2 fun x hx => by
    obtain ⟨i, hi⟩ := List.mem_iff_getElem?.1 hx
    simp [h i x hi]
  unfold applyR
  rw [e]
theorem applyR_some {l : List Rul} {A : Nat} {L : Int} {k : Nat} {r : Rul} (hk : l[k]? = some r) (hf : spk A L r = true) (h : ∀ (i : Nat) (r : Rul), i < k → l[i]? = some r → spk A L r = false) : applyR l A L = if r.d then (0, false) else (r.pf, true) := by
  have hl := (List.getElem?_eq_some_iff.1 hk).1
  have e : l.find? (spk A L) = some r := List.find?_eq_some_iff_getElem.2 ⟨hf, k, hl, (List.getElem?_eq_some_iff.1 hk).2, fun j hj => by
    simp [h j l[j] hj (List.getElem?_eq_getElem (by omega))]⟩
  unfold applyR
  rw [e]
/-- The first that meets f, or none. -/
theorem first_or (f : Rul → Bool) (l : List Rul) : (∀ (i : Nat) (r : Rul), l[i]? = some r → f r = false) ∨ ∃ k r, l[k]? = some r ∧ f r = true ∧ ∀ (i : Nat) (r : Rul), i < k → l[i]? = some r → f r = false := by
  cases h : l.findIdx? f with
  | none =>
    left
    intro i r hr
    exact List.findIdx?_eq_none_iff.1 h r (List.mem_iff_getElem?.2 ⟨i, hr⟩)
  | some k =>
    right
    obtain ⟨hl, hf, hj⟩ := List.findIdx?_eq_some_iff_getElem.1 h
    refine ⟨k, l[k], List.getElem?_eq_getElem hl, hf, fun i r hi hr => ?_⟩
    have e := hj i hi
    rw [(List.getElem?_eq_some_iff.1 hr).2] at e
    simpa using e
theorem ret_two {a b : Int} {x y : Bool} (h : (a, x) = (b, y)) : Value.tuple #[.int .i64 a, .bool x] = .tuple #[.int .i64 b, .bool y] := by
  injection h with h1 h2
  rw [h1, h2]
set_option maxHeartbeats 1600000 in
theorem apply_any (a : Option Addr) (n c A : Nat) (L : Int) (l : List Rul) (w : World) (hn : n ≤ 1000) (hl : l.length = n) (hr : RulesIn w a l) (hA : A < 4294967296) :
    Calls Tryd.prog 41 #[.slice a n c, pfx A L] w fun e w' => e = .returned (.tuple #[.int .i64 (applyR l A L).1, .bool (applyR l A L).2]) ∧ Below w.heap.size w w' := by
  have hbw : Below w.heap.size w (w.alloc (.cells #[.int .u32 (A : Int), .int .i64 L] 29)) := (Below.refl _ _).alloc (Nat.le_refl _) _
  have hbv : Below w.heap.size w ((w.alloc (.cells #[.int .u32 (A : Int), .int .i64 L] 29)).alloc (.cells #[.int .u32 (A : Int), .int .i64 L] 29)) := hbw.alloc (by simp) _
  have K := hide (idx_any a n c 72 #[.pointer (some ⟨w.heap.size + 1, 0, none⟩)] (spk A L) l _ hn hl (hr.below hbv (Nat.le_refl _)) Tryd.call72 (fun i r hir w1 hb1 => speaks1_any r A (w.heap.size + 1) L w1 (hr.lt i r hir) hA
    (by rw [hb1.cell (p := ⟨w.heap.size + 1, 0, none⟩) (by simp)]; simp [go_sem]) (by rw [hb1.cell (p := ⟨w.heap.size + 1, 1, none⟩) (by simp)]; simp [go_sem])))
  have HB := hide hbv
  have HRI := hide hr
  clear hbw hbv hr
  unfold pfx
  rcases first_or (spk A L) l with h | ⟨k, r, hk, hf, h⟩
  · rw [idxR_none h] at K
    rw [applyR_none h]
    clear h
    go_enter Tryd.func41, Tryd.ntmps41
    go_wp2_with fail
    refine (speaks_any A L _).mono ?_
    rintro e w1 ⟨rfl, rfl⟩
    go_wp2_with fail
    refine K.out.mono ?_
    rintro e w2 ⟨rfl, hb2⟩
    have HB2 : Hid (Below w.heap.size w w2) := HB.out.trans (hb2.mono (by simp <;> omega))
    clear hb2
    go_wp2
    exact bodyPost_ret (v := .tuple #[.int .i64 (-1), .bool true]) (by simp [results, Tryd.results41, go_sem]) rfl ⟨rfl, HB2.out⟩
  · rw [idxR_some hk hf h] at K
    rw [applyR_some hk hf h]
    have hkn : k < n := by have := (List.getElem?_eq_some_iff.1 hk).1; omega
    have HKR := hide hk
    clear h hf hk
    rcases HRI.out with e | ⟨g, o, rfl, hrd⟩
    · exfalso
      have := HKR.out
      rw [e] at this
      simp at this
    · have R := (hrd k r HKR.out).1
      have HRR := hide R
      clear hrd R HRI
      have hk0 : (0 : Int) ≤ (k : Int) := Int.natCast_nonneg _
      have hk1 : (k : Int) < (n : Int) := by omega
      have dk : decide ((k : Int) < 0) = false := decide_eq_false (by omega)
      cases hd : r.d with
      | true =>
        go_enter Tryd.func41, Tryd.ntmps41
        go_wp2_with fail
        refine (speaks_any A L _).mono ?_
        rintro e w1 ⟨rfl, rfl⟩
        go_wp2_with fail
        refine K.out.mono ?_
        rintro e w2 ⟨rfl, hb2⟩
        have HB2 : Hid (Below w.heap.size w w2) := HB.out.trans (hb2.mono (by simp <;> omega))
        clear hb2
        have k4 := (HRR.out.below HB2.out (Nat.le_refl _)).c4
        rw [hd] at k4
        go_wp2
        exact bodyPost_ret (v := .tuple #[.int .i64 0, .bool false]) (by simp [results, Tryd.results41, go_sem]) rfl ⟨rfl, HB2.out⟩
      | false =>
        go_enter Tryd.func41, Tryd.ntmps41
        go_wp2_with fail
        refine (speaks_any A L _).mono ?_
        rintro e w1 ⟨rfl, rfl⟩
        go_wp2_with fail
        refine K.out.mono ?_
        rintro e w2 ⟨rfl, hb2⟩
        have HB2 : Hid (Below w.heap.size w w2) := HB.out.trans (hb2.mono (by simp <;> omega))
        clear hb2
        have k4 := (HRR.out.below HB2.out (Nat.le_refl _)).c4
        have k5 := (HRR.out.below HB2.out (Nat.le_refl _)).c5
        rw [hd] at k4
        go_wp2
        exact bodyPost_ret (v := .tuple #[.int .i64 r.pf, .bool true]) (by simp [results, Tryd.results41, go_sem]) rfl ⟨rfl, HB2.out⟩
end Go.Proofs.YthigjonagbfbbaaDoor
