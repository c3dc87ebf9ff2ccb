/- Rules in plain numbers; the program's fromTo, speaksOf, isRight. -/
import Derived.Test.YtejbajjkbjaadaaPfxCv
import Derived.Test.YtejbajjkbjaadaaPfxCn
namespace Go.Proofs.Ytejbajjkbjaadaa
open Go.RowKit
set_option maxRecDepth 100000

theorem pcovers_any (A B : Nat) (L M : Int) (w : World) (hA : A < 4294967296) (hB : B < 4294967296) :
    Calls Try.prog 21 #[pfx A L, pfx B M] w fun e w' => e = .returned (.bool (covB A L B M)) ∧ Below w.heap.size w w' := by
  cases h : rightB A L with
  | false => rw [covB_left h]; exact covers_no A B L M w hA h
  | true =>
    obtain ⟨n, rfl, hn, _⟩ := rightB_len h
    exact covers_yes A n B M w hA hB h hn
theorem pcovers_is {A B : Nat} {L M : Int} {y : Bool} (w : World) (hA : A < 4294967296) (hB : B < 4294967296) (hy : covB A L B M = y) :
    Calls Try.prog 21 #[pfx A L, pfx B M] w fun e w' => e = .returned (.bool y) ∧ Below w.heap.size w w' := by
  rw [← hy]
  exact pcovers_any A B L M w hA hB
theorem covB_self (A : Nat) (L : Int) : covB A L A L = rightB A L := by
  cases h : rightB A L with
  | false => simp [covB, h]
  | true =>
    obtain ⟨n, rfl, hn, hc⟩ := rightB_len h
    rw [covB_both h h (Int.le_refl _), hc]
    simp
/-- A rule. -/
structure Rul where
  A : Nat
  L : Int
  mn : Int
  mx : Int
  d : Bool
  pf : Int
def ruleV (r : Rul) : Value := .agg #[.int .u32 (r.A : Int), .int .i64 r.L, .int .i64 r.mn, .int .i64 r.mx, .bool r.d, .int .i64 r.pf]
/-- A rule's six cells, from an offset on. -/
structure RulAt (w : World) (g o : Nat) (r : Rul) : Prop where
  c0 : w.cell? ⟨g, o, none⟩ = some (.int .u32 (r.A : Int))
  c1 : w.cell? ⟨g, o + 1, none⟩ = some (.int .i64 r.L)
  c2 : w.cell? ⟨g, o + 2, none⟩ = some (.int .i64 r.mn)
  c3 : w.cell? ⟨g, o + 3, none⟩ = some (.int .i64 r.mx)
  c4 : w.cell? ⟨g, o + 4, none⟩ = some (.bool r.d)
  c5 : w.cell? ⟨g, o + 5, none⟩ = some (.int .i64 r.pf)
theorem RulAt.lt {w : World} {g o : Nat} {r : Rul} (h : RulAt w g o r) : g < w.heap.size := World.block_lt_of_cell? w _ h.c0
theorem RulAt.below {w w' : World} {g o B : Nat} {r : Rul} (h : RulAt w g o r) (hb : Below B w w') (hB : w.heap.size ≤ B) : RulAt w' g o r := by
  have k := Nat.lt_of_lt_of_le h.lt hB
  exact ⟨by rw [hb.cell (p := ⟨g, o, none⟩) k]; exact h.c0, by rw [hb.cell (p := ⟨g, o + 1, none⟩) k]; exact h.c1, by rw [hb.cell (p := ⟨g, o + 2, none⟩) k]; exact h.c2, by rw [hb.cell (p := ⟨g, o + 3, none⟩) k]; exact h.c3, by rw [hb.cell (p := ⟨g, o + 4, none⟩) k]; exact h.c4, by rw [hb.cell (p := ⟨g, o + 5, none⟩) k]; exact h.c5⟩
/-- Rules that are read. -/
def RulesRd (w : World) (g o : Nat) (l : List Rul) : Prop := ∀ i r, l[i]? = some r → RulAt w g (o + i * 6) r ∧ r.A < 4294967296
theorem RulesRd.below {w w' : World} {g o B : Nat} {l : List Rul} (h : RulesRd w g o l) (hb : Below B w w') (hB : w.heap.size ≤ B) : RulesRd w' g o l :=
  fun i r hr => ⟨(h i r hr).1.below hb hB, (h i r hr).2⟩
/-- Is n from lo to hi? -/
def ftB (lo hi n : Int) : Bool := decide (lo ≤ n) && decide (n ≤ hi)
theorem ftB_no {lo hi n : Int} (h : decide (lo ≤ n) = false) : false = ftB lo hi n := by unfold ftB; rw [h]; rfl
theorem ftB_go {lo hi n : Int} (h : lo ≤ n) : decide (n ≤ hi) = ftB lo hi n := by unfold ftB; rw [decide_eq_true h]; rfl
/-- Does r speak of A/L? -/
def spk (A : Nat) (L : Int) (r : Rul) : Bool := covB r.A r.L A L && ftB r.mn r.mx L
set_option maxHeartbeats 400000 in
theorem fromto_any (lo hi : Int) (w : World) : Calls Try.prog 20 #[.int .i64 lo, .int .i64 hi] w fun e w' => e = .returned (.func (.func 24) #[] #[.pointer (some ⟨w.heap.size, 0, none⟩), .pointer (some ⟨w.heap.size + 1, 0, none⟩)]) ∧ w' = (w.alloc (.cells #[.int .i64 lo] 3)).alloc (.cells #[.int .i64 hi] 3) := by
  go_enter Try.func20, Try.ntmps20
  go_wp2
  go_ret
  exact ⟨rfl, rfl⟩
set_option maxHeartbeats 400000 in
theorem fromto1_any (lo hi n : Int) (x y : Nat) (w : World) (hx : w.cell? ⟨x, 0, none⟩ = some (.int .i64 lo)) (hy : w.cell? ⟨y, 0, none⟩ = some (.int .i64 hi)) :
    Calls Try.prog 24 #[.int .i64 n, .pointer (some ⟨x, 0, none⟩), .pointer (some ⟨y, 0, none⟩)] w fun e w' => e = .returned (.bool (ftB lo hi n)) ∧ w' = w := by
  by_cases h : lo ≤ n
  · have HR := hide (ftB_go (hi := hi) h)
    go_enter Try.func24, Try.ntmps24
    go_wp2
    go_ret
    exact ⟨ret_bool HR.out, rfl⟩
  · have hd : decide (lo ≤ n) = false := decide_eq_false h
    have HR := hide (ftB_no (hi := hi) hd)
    clear h
    go_enter Try.func24, Try.ntmps24
    go_wp2
    go_ret
    exact ⟨ret_bool HR.out, rfl⟩
theorem fromto1_is {lo hi n : Int} {b : Bool} {x y : Nat} (w : World) (hx : w.cell? ⟨x, 0, none⟩ = some (.int .i64 lo)) (hy : w.cell? ⟨y, 0, none⟩ = some (.int .i64 hi)) (hb : ftB lo hi n = b) :
    Calls Try.prog 24 #[.int .i64 n, .pointer (some ⟨x, 0, none⟩), .pointer (some ⟨y, 0, none⟩)] w fun e w' => e = .returned (.bool b) ∧ w' = w := by
  rw [← hb]
  exact fromto1_any lo hi n x y w hx hy
set_option maxHeartbeats 400000 in
theorem speaks_any (A : Nat) (L : Int) (w : World) : Calls Try.prog 14 #[pfx A L] w fun e w' => e = .returned (.func (.func 19) #[] #[.pointer (some ⟨w.heap.size, 0, none⟩)]) ∧ w' = w.alloc (.cells #[.int .u32 (A : Int), .int .i64 L] 25) := by
  unfold pfx
  go_enter Try.func14, Try.ntmps14
  go_wp2
  go_ret
  exact ⟨rfl, rfl⟩
set_option maxHeartbeats 400000 in
theorem pright_any (A : Nat) (L : Int) (w : World) (hA : A < 4294967296) : Calls Try.prog 23 #[pfx A L] w fun e w' => e = .returned (.bool (rightB A L)) ∧ Below w.heap.size w w' := by
  have K := hide (pcovers_is (w.alloc (.cells #[.int .u32 (A : Int), .int .i64 L] 25)) hA hA (covB_self A L))
  unfold pfx at K ⊢
  go_enter Try.func23, Try.ntmps23
  go_wp2_with fail
  refine K.out.mono ?_
  rintro e w1 ⟨rfl, hb⟩
  have HB := hide hb
  clear hb
  go_wp2
  go_ret
  exact ⟨rfl, ((Below.refl _ _).alloc (Nat.le_refl _) _).trans (HB.out.mono (by simp))⟩
theorem pright_is {A : Nat} {L : Int} {b : Bool} (w : World) (hA : A < 4294967296) (h : rightB A L = b) : Calls Try.prog 23 #[pfx A L] w fun e w' => e = .returned (.bool b) ∧ Below w.heap.size w w' := by
  rw [← h]
  exact pright_any A L w hA
/-- A rule's box, and the two numbers of its bounds. -/
theorem box_rule (w : World) (r : Rul) (t : TypeId) : RulAt (w.alloc (.cells #[.int .u32 (r.A : Int), .int .i64 r.L, .int .i64 r.mn, .int .i64 r.mx, .bool r.d, .int .i64 r.pf] t)) w.heap.size 0 r := by
  refine ⟨?_, ?_, ?_, ?_, ?_, ?_⟩ <;> simp [go_sem]
set_option maxHeartbeats 1600000 in
theorem speaks1_any (r : Rul) (A x : Nat) (L : Int) (w : World) (hr : r.A < 4294967296) (hA : A < 4294967296) (h0 : w.cell? ⟨x, 0, none⟩ = some (.int .u32 (A : Int))) (h1 : w.cell? ⟨x, 1, none⟩ = some (.int .i64 L)) :
    Calls Try.prog 19 #[ruleV r, .pointer (some ⟨x, 0, none⟩)] w fun e w' => e = .returned (.bool (spk A L r)) ∧ Below w.heap.size w w' := by
  have hx := World.block_lt_of_cell? w _ h0
  simp only at hx
  unfold ruleV
  cases hc : covB r.A r.L A L with
  | true =>
    have HS : Hid (ftB r.mn r.mx L = spk A L r) := by show _ = _; unfold spk; rw [hc]; rfl
    have HC := hide hc
    clear hc
    go_enter Try.func19, Try.ntmps19
    go_wp2_with fail
    refine (fromto_any r.mn r.mx _).mono ?_
    rintro e w1 ⟨rfl, hw⟩
    have R1 : RulAt w1 w.heap.size 0 r := by rw [hw]; exact ((box_rule w r 32).below ((Below.refl _ _).alloc (Nat.le_refl _) _) (Nat.le_refl _)).below ((Below.refl _ _).alloc (Nat.le_refl _) _) (Nat.le_refl _)
    have z1 : w1.heap.size = w.heap.size + 3 := by rw [hw]; simp
    have HB1 : Hid (Below w.heap.size w w1) := by show Below _ _ _; rw [hw]; exact (((Below.refl _ _).alloc (Nat.le_refl _) _).alloc (by simp) _).alloc (by simp <;> omega) _
    have p0 : w1.cell? ⟨x, 0, none⟩ = some (.int .u32 (A : Int)) := by rw [HB1.out.cell (p := ⟨x, 0, none⟩) hx]; exact h0
    have p1 : w1.cell? ⟨x, 1, none⟩ = some (.int .i64 L) := by rw [HB1.out.cell (p := ⟨x, 1, none⟩) hx]; exact h1
    have f0 : w1.cell? ⟨(w.alloc (.cells #[.int .u32 (r.A : Int), .int .i64 r.L, .int .i64 r.mn, .int .i64 r.mx, .bool r.d, .int .i64 r.pf] 32)).heap.size, 0, none⟩ = some (.int .i64 r.mn) := by rw [hw]; simp [go_sem]
    have f1 : w1.cell? ⟨(w.alloc (.cells #[.int .u32 (r.A : Int), .int .i64 r.L, .int .i64 r.mn, .int .i64 r.mx, .bool r.d, .int .i64 r.pf] 32)).heap.size + 1, 0, none⟩ = some (.int .i64 r.mx) := by rw [hw]; simp [go_sem]
    have k0 := R1.c0
    have k1 := R1.c1
    clear hw
    generalize (w.alloc (.cells #[.int .u32 (r.A : Int), .int .i64 r.L, .int .i64 r.mn, .int .i64 r.mx, .bool r.d, .int .i64 r.pf] 32)).heap.size = S at *
    have ec := Try.call24
    go_wp2_with fail
    refine (pcovers_is w1 hr hA HC.out).mono ?_
    rintro e w2 ⟨rfl, hb2⟩
    have q1 : w2.cell? ⟨x, 1, none⟩ = some (.int .i64 L) := by rw [hb2.cell (p := ⟨x, 1, none⟩) (World.block_lt_of_cell? w1 _ p1)]; exact p1
    have g0 : w2.cell? ⟨S, 0, none⟩ = some (.int .i64 r.mn) := by rw [hb2.cell (p := ⟨S, 0, none⟩) (World.block_lt_of_cell? w1 _ f0)]; exact f0
    have g1 : w2.cell? ⟨S + 1, 0, none⟩ = some (.int .i64 r.mx) := by rw [hb2.cell (p := ⟨S + 1, 0, none⟩) (World.block_lt_of_cell? w1 _ f1)]; exact f1
    have HB2 : Hid (Below w.heap.size w w2) := HB1.out.trans (hb2.mono HB1.out.size)
    clear hb2
    go_wp2_with fail
    refine (fromto1_is w2 g0 g1 HS.out).mono ?_
    rintro e w3 ⟨rfl, rfl⟩
    go_wp2
    go_ret
    exact ⟨rfl, HB2.out⟩
  | false =>
    have HS : Hid (false = spk A L r) := by show _ = _; unfold spk; rw [hc]; rfl
    have HC := hide hc
    clear hc
    go_enter Try.func19, Try.ntmps19
    go_wp2_with fail
    refine (fromto_any r.mn r.mx _).mono ?_
    rintro e w1 ⟨rfl, hw⟩
    have R1 : RulAt w1 w.heap.size 0 r := by rw [hw]; exact ((box_rule w r 32).below ((Below.refl _ _).alloc (Nat.le_refl _) _) (Nat.le_refl _)).below ((Below.refl _ _).alloc (Nat.le_refl _) _) (Nat.le_refl _)
    have HB1 : Hid (Below w.heap.size w w1) := by show Below _ _ _; rw [hw]; exact (((Below.refl _ _).alloc (Nat.le_refl _) _).alloc (by simp) _).alloc (by simp <;> omega) _
    have p0 : w1.cell? ⟨x, 0, none⟩ = some (.int .u32 (A : Int)) := by rw [HB1.out.cell (p := ⟨x, 0, none⟩) hx]; exact h0
    have p1 : w1.cell? ⟨x, 1, none⟩ = some (.int .i64 L) := by rw [HB1.out.cell (p := ⟨x, 1, none⟩) hx]; exact h1
    have k0 := R1.c0
    have k1 := R1.c1
    clear hw
    generalize (w.alloc (.cells #[.int .u32 (r.A : Int), .int .i64 r.L, .int .i64 r.mn, .int .i64 r.mx, .bool r.d, .int .i64 r.pf] 32)).heap.size = S at *
    go_wp2_with fail
    refine (pcovers_is w1 hr hA HC.out).mono ?_
    rintro e w2 ⟨rfl, hb2⟩
    have HB2 : Hid (Below w.heap.size w w2) := HB1.out.trans (hb2.mono HB1.out.size)
    clear hb2
    go_wp2
    go_ret
    exact ⟨ret_bool HS.out, HB2.out⟩
end Go.Proofs.Ytejbajjkbjaadaa
