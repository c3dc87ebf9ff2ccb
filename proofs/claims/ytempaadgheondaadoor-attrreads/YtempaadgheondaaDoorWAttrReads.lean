/- AttrReads' walk. -/
import Derived.Test.YtempaadgheondaaDoorAtRe
import Derived.Test.YtempaadgheondaaDoorHGr
import Derived.Test.YtempaadgheondaaDoorAtQ5
import Derived.Test.YtempaadgheondaaDoorAtQ6
import Derived.Test.YtempaadgheondaaDoorAtSy
namespace Go.Proofs.YtempaadgheondaaDoor
open Go.RowKit
set_option maxRecDepth 100000

/-- What both Decode and ReadAttrs answer. -/
def ReadOk (w' : World) (A : At) (nd : List Nat) (code ns : Int) (e : Ending) : Prop :=
  ∃ p1 k1 p5 k5 p6 k6 a9 c9, e = .returned (.tuple #[atV p1 k1 p5 k5 p6 k6 A, .agg #[.int .i64 code, .int .i64 ns, .slice a9 nd.length c9]]) ∧ AtRd w' p1 p5 p6 A ∧ BRd w' a9 nd
theorem readOk_no {w w' : World} {s : Nat} {d : List Nat} {e : Ending} (h : DecA w w' (.inl (3, s, d)) e) (hl : d.length ≤ 500000) (hb : ∀ x ∈ d, x < 256) : ReadOk w' ⟨0, [], 0, 0, 0, [], []⟩ d 3 (s : Int) e := by
  obtain ⟨a9, c9, he, ho⟩ := h
  obtain ⟨a, c, ev, _, hr⟩ := own_brd ho hl hb
  simp only [Value.slice.injEq, true_and] at ev
  obtain ⟨rfl, rfl⟩ := ev
  have hrd : AtRd w' none none none ⟨0, [], 0, 0, 0, [], []⟩ := dec_rd (B := 0) (k1 := 0) (k5 := 0) (k6 := 0) (by decide) (by decide) (fun r hr => by simp at hr) (OwnPath.nil _ _) (own_nil _ _ _ _) (OwnRaws.nil _ _)
  exact ⟨none, 0, none, 0, none, 0, a9, c9, he, hrd, hr⟩
theorem readOk_yes {w w' : World} {A : At} {e : Ending} (h : DecA w w' (.inr A) e) (hn : A.next < 4294967296) (hl : sizeA A ≤ 100000) (hb : ∀ r ∈ A.raws, ∀ x ∈ r.2.2, x < 256) : ReadOk w' A [] 0 0 e := by
  obtain ⟨p1, k1, p5, k5, p6, k6, he, o1, o5, o6⟩ := h
  exact ⟨p1, k1, p5, k5, p6, k6, none, 0, he, dec_rd hn hl hb o1 o5 o6, brd_none _ _⟩
theorem areads_long (b0 : Option Addr) (n c0 : Nat) (W : World) (hS : Said W) (hn : 5000 < n) : Calls Tryd.prog 4 #[.slice b0 n c0] W fun e W' => e = .returned (.bool true) ∧ Below W.heap.size W W' := by
  have KA := hide (answers_any W hS)
  have hi : (5000 : Int) < (n : Int) := by omega
  clear hS
  go_enter Tryd.func4, Tryd.ntmps4
  go_wp2_with fail
  refine KA.out.mono ?_
  rintro e w1 ⟨rfl, hb1⟩
  have HB1 := hide hb1
  clear hb1
  go_wp2
  go_ret
  exact ⟨rfl, HB1.out⟩
set_option maxHeartbeats 3200000 in
theorem areads_no (ns : Int) (b0 : Option Addr) (n c0 : Nat) (A : At) (nd : List Nat) (W : World) (hn : n ≤ 5000) (hA : sizeA A ≤ 100000) (hnd : nd.length ≤ 100000)
    (KD : Hid (Calls Tryd.prog 16 #[.slice b0 n c0] W fun e w' => ReadOk w' A nd 3 ns e ∧ Below W.heap.size W w'))
    (KR : Hid (∀ X, Below W.heap.size W X → Calls Tryd.prog 18 #[.slice b0 n c0] X fun e w' => ReadOk w' A nd 3 ns e ∧ Below X.heap.size X w'))
    (KA : Hid (∀ X, Below W.heap.size W X → Calls Tryd.prog 10 #[] X fun e w' => e = .returned (.bool true) ∧ Below X.heap.size X w')) :
    Calls Tryd.prog 4 #[.slice b0 n c0] W fun e W' => e = .returned (.bool true) ∧ Below W.heap.size W W' := by
  have hi : decide ((5000 : Int) < (n : Int)) = false := decide_eq_false (by omega)
  go_enter Tryd.func4, Tryd.ntmps4
  go_wp2_with fail
  refine KD.out.mono ?_
  rintro e w1 ⟨⟨p1, k1, p5, k5, p6, k6, a9, c9, rfl, ra1, rb1⟩, hb1⟩
  have R1 := hide ra1
  have N1 := hide rb1
  have B1 := hide hb1
  clear ra1 rb1 hb1
  unfold atV
  go_wp2_with fail
  obtain ⟨w2, hw2⟩ : ∃ w2, w2 = (w1.alloc (.cells #[.int .i64 A.origin, .slice p1 A.path.length k1, .int .u32 (A.next : Int), .int .i64 A.med, .int .i64 A.pref, .slice p5 A.comms.length k5, .slice p6 A.raws.length k6] 27)).alloc (.cells #[.int .i64 3, .int .i64 ns, .slice a9 nd.length c9] 34) := ⟨_, rfl⟩
  have Bw2 : Hid (Below w1.heap.size w1 w2) := by show Below _ _ _; rw [hw2]; exact ((Below.refl _ _).alloc (Nat.le_refl _) _).alloc (by simp) _
  have Fw2 : Hid (w2.heap[w1.heap.size]? = some (.cells #[.int .i64 A.origin, .slice p1 A.path.length k1, .int .u32 (A.next : Int), .int .i64 A.med, .int .i64 A.pref, .slice p5 A.comms.length k5, .slice p6 A.raws.length k6] 27 (0, 0)) ∧ w2.heap[w1.heap.size + 1]? = some (.cells #[.int .i64 3, .int .i64 ns, .slice a9 nd.length c9] 34 (0, 0)) ∧ w1.heap.size + 1 < w2.heap.size) := by
    show _ ∧ _ ∧ _
    rw [hw2]
    refine ⟨?_, ?_, by simp⟩
    · rw [heap_alloc_old _ _ (by simp)]; exact heap_alloc_new _ _
    · have h9 := heap_alloc_new (w1.alloc (.cells #[.int .i64 A.origin, .slice p1 A.path.length k1, .int .u32 (A.next : Int), .int .i64 A.med, .int .i64 A.pref, .slice p5 A.comms.length k5, .slice p6 A.raws.length k6] 27)) (.cells #[.int .i64 3, .int .i64 ns, .slice a9 nd.length c9] 34)
      simpa using h9
  rw [← hw2]
  clear hw2
  have B2 : Hid (Below W.heap.size W w2) := B1.out.trans (Bw2.out.mono B1.out.size)
  refine (KR.out w2 B2.out).mono ?_
  rintro e w3 ⟨⟨p1', k1', p5', k5', p6', k6', a9', c9', rfl, ra3, rb3⟩, hb3⟩
  have R3 := hide ra3
  have N3 := hide rb3
  have B23 := hide hb3
  clear ra3 rb3 hb3
  unfold atV
  go_wp2_with fail
  obtain ⟨w4, hw4⟩ : ∃ w4, w4 = (w3.alloc (.cells #[.int .i64 A.origin, .slice p1' A.path.length k1', .int .u32 (A.next : Int), .int .i64 A.med, .int .i64 A.pref, .slice p5' A.comms.length k5', .slice p6' A.raws.length k6'] 27)).alloc (.cells #[.int .i64 3, .int .i64 ns, .slice a9' nd.length c9'] 34) := ⟨_, rfl⟩
  have Bw4 : Hid (Below w3.heap.size w3 w4) := by show Below _ _ _; rw [hw4]; exact ((Below.refl _ _).alloc (Nat.le_refl _) _).alloc (by simp) _
  have Fw4 : Hid (w4.heap[w3.heap.size]? = some (.cells #[.int .i64 A.origin, .slice p1' A.path.length k1', .int .u32 (A.next : Int), .int .i64 A.med, .int .i64 A.pref, .slice p5' A.comms.length k5', .slice p6' A.raws.length k6'] 27 (0, 0)) ∧ w4.heap[w3.heap.size + 1]? = some (.cells #[.int .i64 3, .int .i64 ns, .slice a9' nd.length c9'] 34 (0, 0)) ∧ w3.heap.size + 1 < w4.heap.size) := by
    show _ ∧ _ ∧ _
    rw [hw4]
    refine ⟨?_, ?_, by simp⟩
    · rw [heap_alloc_old _ _ (by simp)]; exact heap_alloc_new _ _
    · have h9 := heap_alloc_new (w3.alloc (.cells #[.int .i64 A.origin, .slice p1' A.path.length k1', .int .u32 (A.next : Int), .int .i64 A.med, .int .i64 A.pref, .slice p5' A.comms.length k5', .slice p6' A.raws.length k6'] 27)) (.cells #[.int .i64 3, .int .i64 ns, .slice a9' nd.length c9'] 34)
      simpa using h9
  rw [← hw4]
  clear hw4
  have B3 : Hid (Below W.heap.size W w3) := B2.out.trans (B23.out.mono B2.out.size)
  have B4 : Hid (Below W.heap.size W w4) := B3.out.trans (Bw4.out.mono B3.out.size)
  have B24 : Hid (Below w2.heap.size w2 w4) := B23.out.trans (Bw4.out.mono B23.out.size)
  have B14 : Hid (Below w1.heap.size w1 w4) := Bw2.out.trans (B24.out.mono Bw2.out.size)
  have CA : Hid (∀ X, Below w4.heap.size w4 X → X.heap[w1.heap.size]? = some (.cells #[.int .i64 A.origin, .slice p1 A.path.length k1, .int .u32 (A.next : Int), .int .i64 A.med, .int .i64 A.pref, .slice p5 A.comms.length k5, .slice p6 A.raws.length k6] 27 (0, 0)) ∧ X.heap[w1.heap.size + 1]? = some (.cells #[.int .i64 3, .int .i64 ns, .slice a9 nd.length c9] 34 (0, 0)) ∧ X.heap[w3.heap.size]? = some (.cells #[.int .i64 A.origin, .slice p1' A.path.length k1', .int .u32 (A.next : Int), .int .i64 A.med, .int .i64 A.pref, .slice p5' A.comms.length k5', .slice p6' A.raws.length k6'] 27 (0, 0)) ∧ X.heap[w3.heap.size + 1]? = some (.cells #[.int .i64 3, .int .i64 ns, .slice a9' nd.length c9'] 34 (0, 0))) := fun X hb => by
    obtain ⟨f1, f2, f3⟩ := Fw2.out
    obtain ⟨f4, f5, f6⟩ := Fw4.out
    have z := B24.out.size
    refine ⟨?_, ?_, ?_, ?_⟩
    · rw [hb.block _ (by omega), B24.out.block _ (by omega)]; exact f1
    · rw [hb.block _ (by omega), B24.out.block _ (by omega)]; exact f2
    · rw [hb.block _ (by omega)]; exact f4
    · rw [hb.block _ (by omega)]; exact f5
  refine (KA.out w4 B4.out).mono ?_
  rintro e w5 ⟨rfl, hb5⟩
  have B45 := hide hb5
  clear hb5
  have KN := hide (samenote_any 3 ns 3 ns a9 a9' c9 c9' nd nd w5 (by omega) (N1.out.below (B14.out.trans (B45.out.mono B14.out.size))) (N3.out.below (Bw4.out.trans (B45.out.mono Bw4.out.size))))
  rw [decide_eq_true ⟨rfl, rfl, rfl⟩] at KN
  have g0 := (cells_of (CA.out w5 B45.out).2.1 0).1
  have g1 := (cells_of (CA.out w5 B45.out).2.1 1).1
  have g2 := (cells_of (CA.out w5 B45.out).2.1 2).1
  have q0 := (cells_of (CA.out w5 B45.out).2.2.2 0).1
  have q1 := (cells_of (CA.out w5 B45.out).2.2.2 1).1
  have q2 := (cells_of (CA.out w5 B45.out).2.2.2 2).1
  simp only [List.getElem?_toArray, List.getElem?_cons_zero, List.getElem?_cons_succ] at g0 g1 g2 q0 q1 q2
  go_wp2_with fail
  refine KN.out.mono ?_
  rintro e w6 ⟨rfl, hb6⟩
  have B46 : Hid (Below w4.heap.size w4 w6) := B45.out.trans (hb6.mono B45.out.size)
  clear hb6 g0 g1 g2 q0 q1 q2
  have KS := hide (samea_any p1 p1' k1 k1' p5 p5' k5 k5' p6 p6' k6 k6' A A w6 hA hA (R1.out.below (B14.out.trans (B46.out.mono B14.out.size))) (R3.out.below (Bw4.out.trans (B46.out.mono Bw4.out.size))))
  rw [eqA_refl] at KS
  unfold atV at KS
  have g0 := (cells_of (CA.out w6 B46.out).1 0).1
  have g1 := (cells_of (CA.out w6 B46.out).1 1).1
  have g2 := (cells_of (CA.out w6 B46.out).1 2).1
  have g3 := (cells_of (CA.out w6 B46.out).1 3).1
  have g4 := (cells_of (CA.out w6 B46.out).1 4).1
  have g5 := (cells_of (CA.out w6 B46.out).1 5).1
  have g6 := (cells_of (CA.out w6 B46.out).1 6).1
  have q0 := (cells_of (CA.out w6 B46.out).2.2.1 0).1
  have q1 := (cells_of (CA.out w6 B46.out).2.2.1 1).1
  have q2 := (cells_of (CA.out w6 B46.out).2.2.1 2).1
  have q3 := (cells_of (CA.out w6 B46.out).2.2.1 3).1
  have q4 := (cells_of (CA.out w6 B46.out).2.2.1 4).1
  have q5 := (cells_of (CA.out w6 B46.out).2.2.1 5).1
  have q6 := (cells_of (CA.out w6 B46.out).2.2.1 6).1
  simp only [List.getElem?_toArray, List.getElem?_cons_zero, List.getElem?_cons_succ] at g0 g1 g2 g3 g4 g5 g6 q0 q1 q2 q3 q4 q5 q6
  go_wp2_with fail
  refine KS.out.mono ?_
  rintro e w7 ⟨rfl, hb7⟩
  have B47 : Hid (Below w4.heap.size w4 w7) := B46.out.trans (hb7.mono B46.out.size)
  clear hb7 g0 g1 g2 g3 g4 g5 g6 q0 q1 q2 q3 q4 q5 q6
  have m0 := (cells_of (CA.out w7 B47.out).2.1 0).1
  have m1 := (cells_of (CA.out w7 B47.out).2.1 1).1
  have m2 := (cells_of (CA.out w7 B47.out).2.1 2).1
  simp only [List.getElem?_toArray, List.getElem?_cons_zero, List.getElem?_cons_succ] at m0 m1 m2
  go_wp2
  go_ret
  exact ⟨rfl, B4.out.trans (B47.out.mono B4.out.size)⟩
set_option maxHeartbeats 3200000 in
theorem areads_yes (b0 : Option Addr) (n c0 : Nat) (A : At) (nd : List Nat) (W : World) (hn : n ≤ 5000) (hA : sizeA A ≤ 100000) (hnd : nd.length ≤ 100000)
    (KD : Hid (Calls Tryd.prog 16 #[.slice b0 n c0] W fun e w' => ReadOk w' A nd 0 0 e ∧ Below W.heap.size W w'))
    (KR : Hid (∀ X, Below W.heap.size W X → Calls Tryd.prog 18 #[.slice b0 n c0] X fun e w' => ReadOk w' A nd 0 0 e ∧ Below X.heap.size X w'))
    (KA : Hid (∀ X, Below W.heap.size W X → Calls Tryd.prog 10 #[] X fun e w' => e = .returned (.bool true) ∧ Below X.heap.size X w'))
    (hS : Said W) (hg : goodA A = true) :
    Calls Tryd.prog 4 #[.slice b0 n c0] W fun e W' => e = .returned (.bool true) ∧ Below W.heap.size W W' := by
  have hi : decide ((5000 : Int) < (n : Int)) = false := decide_eq_false (by omega)
  go_enter Tryd.func4, Tryd.ntmps4
  go_wp2_with fail
  refine KD.out.mono ?_
  rintro e w1 ⟨⟨p1, k1, p5, k5, p6, k6, a9, c9, rfl, ra1, rb1⟩, hb1⟩
  have R1 := hide ra1
  have N1 := hide rb1
  have B1 := hide hb1
  clear ra1 rb1 hb1
  unfold atV
  go_wp2_with fail
  obtain ⟨w2, hw2⟩ : ∃ w2, w2 = (w1.alloc (.cells #[.int .i64 A.origin, .slice p1 A.path.length k1, .int .u32 (A.next : Int), .int .i64 A.med, .int .i64 A.pref, .slice p5 A.comms.length k5, .slice p6 A.raws.length k6] 27)).alloc (.cells #[.int .i64 0, .int .i64 0, .slice a9 nd.length c9] 34) := ⟨_, rfl⟩
  have Bw2 : Hid (Below w1.heap.size w1 w2) := by show Below _ _ _; rw [hw2]; exact ((Below.refl _ _).alloc (Nat.le_refl _) _).alloc (by simp) _
  have Fw2 : Hid (w2.heap[w1.heap.size]? = some (.cells #[.int .i64 A.origin, .slice p1 A.path.length k1, .int .u32 (A.next : Int), .int .i64 A.med, .int .i64 A.pref, .slice p5 A.comms.length k5, .slice p6 A.raws.length k6] 27 (0, 0)) ∧ w2.heap[w1.heap.size + 1]? = some (.cells #[.int .i64 0, .int .i64 0, .slice a9 nd.length c9] 34 (0, 0)) ∧ w1.heap.size + 1 < w2.heap.size) := by
    show _ ∧ _ ∧ _
    rw [hw2]
    refine ⟨?_, ?_, by simp⟩
    · rw [heap_alloc_old _ _ (by simp)]; exact heap_alloc_new _ _
    · have h9 := heap_alloc_new (w1.alloc (.cells #[.int .i64 A.origin, .slice p1 A.path.length k1, .int .u32 (A.next : Int), .int .i64 A.med, .int .i64 A.pref, .slice p5 A.comms.length k5, .slice p6 A.raws.length k6] 27)) (.cells #[.int .i64 0, .int .i64 0, .slice a9 nd.length c9] 34)
      simpa using h9
  rw [← hw2]
  clear hw2
  have B2 : Hid (Below W.heap.size W w2) := B1.out.trans (Bw2.out.mono B1.out.size)
  refine (KR.out w2 B2.out).mono ?_
  rintro e w3 ⟨⟨p1', k1', p5', k5', p6', k6', a9', c9', rfl, ra3, rb3⟩, hb3⟩
  have R3 := hide ra3
  have N3 := hide rb3
  have B23 := hide hb3
  clear ra3 rb3 hb3
  unfold atV
  go_wp2_with fail
  obtain ⟨w4, hw4⟩ : ∃ w4, w4 = (w3.alloc (.cells #[.int .i64 A.origin, .slice p1' A.path.length k1', .int .u32 (A.next : Int), .int .i64 A.med, .int .i64 A.pref, .slice p5' A.comms.length k5', .slice p6' A.raws.length k6'] 27)).alloc (.cells #[.int .i64 0, .int .i64 0, .slice a9' nd.length c9'] 34) := ⟨_, rfl⟩
  have Bw4 : Hid (Below w3.heap.size w3 w4) := by show Below _ _ _; rw [hw4]; exact ((Below.refl _ _).alloc (Nat.le_refl _) _).alloc (by simp) _
  have Fw4 : Hid (w4.heap[w3.heap.size]? = some (.cells #[.int .i64 A.origin, .slice p1' A.path.length k1', .int .u32 (A.next : Int), .int .i64 A.med, .int .i64 A.pref, .slice p5' A.comms.length k5', .slice p6' A.raws.length k6'] 27 (0, 0)) ∧ w4.heap[w3.heap.size + 1]? = some (.cells #[.int .i64 0, .int .i64 0, .slice a9' nd.length c9'] 34 (0, 0)) ∧ w3.heap.size + 1 < w4.heap.size) := by
    show _ ∧ _ ∧ _
    rw [hw4]
    refine ⟨?_, ?_, by simp⟩
    · rw [heap_alloc_old _ _ (by simp)]; exact heap_alloc_new _ _
    · have h9 := heap_alloc_new (w3.alloc (.cells #[.int .i64 A.origin, .slice p1' A.path.length k1', .int .u32 (A.next : Int), .int .i64 A.med, .int .i64 A.pref, .slice p5' A.comms.length k5', .slice p6' A.raws.length k6'] 27)) (.cells #[.int .i64 0, .int .i64 0, .slice a9' nd.length c9'] 34)
      simpa using h9
  rw [← hw4]
  clear hw4
  have B3 : Hid (Below W.heap.size W w3) := B2.out.trans (B23.out.mono B2.out.size)
  have B4 : Hid (Below W.heap.size W w4) := B3.out.trans (Bw4.out.mono B3.out.size)
  have B24 : Hid (Below w2.heap.size w2 w4) := B23.out.trans (Bw4.out.mono B23.out.size)
  have B14 : Hid (Below w1.heap.size w1 w4) := Bw2.out.trans (B24.out.mono Bw2.out.size)
  have CA : Hid (∀ X, Below w4.heap.size w4 X → X.heap[w1.heap.size]? = some (.cells #[.int .i64 A.origin, .slice p1 A.path.length k1, .int .u32 (A.next : Int), .int .i64 A.med, .int .i64 A.pref, .slice p5 A.comms.length k5, .slice p6 A.raws.length k6] 27 (0, 0)) ∧ X.heap[w1.heap.size + 1]? = some (.cells #[.int .i64 0, .int .i64 0, .slice a9 nd.length c9] 34 (0, 0)) ∧ X.heap[w3.heap.size]? = some (.cells #[.int .i64 A.origin, .slice p1' A.path.length k1', .int .u32 (A.next : Int), .int .i64 A.med, .int .i64 A.pref, .slice p5' A.comms.length k5', .slice p6' A.raws.length k6'] 27 (0, 0)) ∧ X.heap[w3.heap.size + 1]? = some (.cells #[.int .i64 0, .int .i64 0, .slice a9' nd.length c9'] 34 (0, 0))) := fun X hb => by
    obtain ⟨f1, f2, f3⟩ := Fw2.out
    obtain ⟨f4, f5, f6⟩ := Fw4.out
    have z := B24.out.size
    refine ⟨?_, ?_, ?_, ?_⟩
    · rw [hb.block _ (by omega), B24.out.block _ (by omega)]; exact f1
    · rw [hb.block _ (by omega), B24.out.block _ (by omega)]; exact f2
    · rw [hb.block _ (by omega)]; exact f4
    · rw [hb.block _ (by omega)]; exact f5
  refine (KA.out w4 B4.out).mono ?_
  rintro e w5 ⟨rfl, hb5⟩
  have B45 := hide hb5
  clear hb5
  have KN := hide (samenote_any 0 0 0 0 a9 a9' c9 c9' nd nd w5 (by omega) (N1.out.below (B14.out.trans (B45.out.mono B14.out.size))) (N3.out.below (Bw4.out.trans (B45.out.mono Bw4.out.size))))
  rw [decide_eq_true ⟨rfl, rfl, rfl⟩] at KN
  have g0 := (cells_of (CA.out w5 B45.out).2.1 0).1
  have g1 := (cells_of (CA.out w5 B45.out).2.1 1).1
  have g2 := (cells_of (CA.out w5 B45.out).2.1 2).1
  have q0 := (cells_of (CA.out w5 B45.out).2.2.2 0).1
  have q1 := (cells_of (CA.out w5 B45.out).2.2.2 1).1
  have q2 := (cells_of (CA.out w5 B45.out).2.2.2 2).1
  simp only [List.getElem?_toArray, List.getElem?_cons_zero, List.getElem?_cons_succ] at g0 g1 g2 q0 q1 q2
  go_wp2_with fail
  refine KN.out.mono ?_
  rintro e w6 ⟨rfl, hb6⟩
  have B46 : Hid (Below w4.heap.size w4 w6) := B45.out.trans (hb6.mono B45.out.size)
  clear hb6 g0 g1 g2 q0 q1 q2
  have KS := hide (samea_any p1 p1' k1 k1' p5 p5' k5 k5' p6 p6' k6 k6' A A w6 hA hA (R1.out.below (B14.out.trans (B46.out.mono B14.out.size))) (R3.out.below (Bw4.out.trans (B46.out.mono Bw4.out.size))))
  rw [eqA_refl] at KS
  unfold atV at KS
  have g0 := (cells_of (CA.out w6 B46.out).1 0).1
  have g1 := (cells_of (CA.out w6 B46.out).1 1).1
  have g2 := (cells_of (CA.out w6 B46.out).1 2).1
  have g3 := (cells_of (CA.out w6 B46.out).1 3).1
  have g4 := (cells_of (CA.out w6 B46.out).1 4).1
  have g5 := (cells_of (CA.out w6 B46.out).1 5).1
  have g6 := (cells_of (CA.out w6 B46.out).1 6).1
  have q0 := (cells_of (CA.out w6 B46.out).2.2.1 0).1
  have q1 := (cells_of (CA.out w6 B46.out).2.2.1 1).1
  have q2 := (cells_of (CA.out w6 B46.out).2.2.1 2).1
  have q3 := (cells_of (CA.out w6 B46.out).2.2.1 3).1
  have q4 := (cells_of (CA.out w6 B46.out).2.2.1 4).1
  have q5 := (cells_of (CA.out w6 B46.out).2.2.1 5).1
  have q6 := (cells_of (CA.out w6 B46.out).2.2.1 6).1
  simp only [List.getElem?_toArray, List.getElem?_cons_zero, List.getElem?_cons_succ] at g0 g1 g2 g3 g4 g5 g6 q0 q1 q2 q3 q4 q5 q6
  go_wp2_with fail
  refine KS.out.mono ?_
  rintro e w7 ⟨rfl, hb7⟩
  have B47 : Hid (Below w4.heap.size w4 w7) := B46.out.trans (hb7.mono B46.out.size)
  clear hb7 g0 g1 g2 g3 g4 g5 g6 q0 q1 q2 q3 q4 q5 q6
  have KG := hide (pgood_any p1 k1 p5 k5 p6 k6 A w7 (hS.below (B4.out.trans (B47.out.mono B4.out.size))) hA (R1.out.below (B14.out.trans (B47.out.mono B14.out.size))))
  rw [hg] at KG
  unfold atV at KG
  have m0 := (cells_of (CA.out w7 B47.out).2.1 0).1
  have m1 := (cells_of (CA.out w7 B47.out).2.1 1).1
  have m2 := (cells_of (CA.out w7 B47.out).2.1 2).1
  have g0 := (cells_of (CA.out w7 B47.out).1 0).1
  have g1 := (cells_of (CA.out w7 B47.out).1 1).1
  have g2 := (cells_of (CA.out w7 B47.out).1 2).1
  have g3 := (cells_of (CA.out w7 B47.out).1 3).1
  have g4 := (cells_of (CA.out w7 B47.out).1 4).1
  have g5 := (cells_of (CA.out w7 B47.out).1 5).1
  have g6 := (cells_of (CA.out w7 B47.out).1 6).1
  simp only [List.getElem?_toArray, List.getElem?_cons_zero, List.getElem?_cons_succ] at m0 m1 m2 g0 g1 g2 g3 g4 g5 g6
  go_wp2_with fail
  refine KG.out.mono ?_
  rintro e w8 ⟨rfl, hb8⟩
  have B48 : Hid (Below w4.heap.size w4 w8) := B47.out.trans (hb8.mono B47.out.size)
  clear hb8 m0 m1 m2 g0 g1 g2 g3 g4 g5 g6
  go_wp2
  go_ret
  exact ⟨rfl, B4.out.trans (B48.out.mono B4.out.size)⟩
theorem attrReads_walk (b0 : Option Addr) (c0 : Nat) (bs : List Nat) (W : World) (hS : Said W) (hc : bs.length ≤ c0) (hr : BRd W b0 bs) : Calls Tryd.prog 4 #[.slice b0 bs.length c0] W fun e W' => e = .returned (.bool true) ∧ Below W.heap.size W W' := by
  by_cases hl : 5000 < bs.length
  · exact areads_long b0 bs.length c0 W hS hl
  · have hl5 : bs.length ≤ 5000 := by omega
    have KD0 := decode_any b0 c0 bs W hS (by omega) hc hr
    have KR0 : ∀ X, Below W.heap.size W X → Calls Tryd.prog 18 #[.slice b0 bs.length c0] X fun e w' => DecA X w' (readA bs) e ∧ Below X.heap.size X w' := fun X hb => reada_any b0 c0 bs X hl5 hc (hr.below hb)
    have KA : ∀ X, Below W.heap.size W X → Calls Tryd.prog 10 #[] X fun e w' => e = .returned (.bool true) ∧ Below X.heap.size X w' := fun X hb => answers_any X (hS.below hb)
    cases hrd : readA bs with
    | inl m =>
      obtain ⟨mc, ms, md⟩ := m
      obtain ⟨h3, hb, hm⟩ := read_note hr.2 hrd
      simp only at h3 hb hm
      subst h3
      rw [hrd] at KD0 KR0
      exact areads_no (ms : Int) b0 bs.length c0 ⟨0, [], 0, 0, 0, [], []⟩ md W hl5 (by decide) (by omega) (KD0.mono fun e w' h => ⟨readOk_no h.1 (by omega) hb, h.2⟩) (fun X hX => (KR0 X hX).mono fun e w' h => ⟨readOk_no h.1 (by omega) hb, h.2⟩) KA
    | inr A =>
      obtain ⟨hg, hn, hs, hb⟩ := read_good hr.2 hrd
      rw [hrd] at KD0 KR0
      exact areads_yes b0 bs.length c0 A [] W hl5 (by omega) (by simp) (KD0.mono fun e w' h => ⟨readOk_yes h.1 hn (by omega) hb, h.2⟩) (fun X hX => (KR0 X hX).mono fun e w' h => ⟨readOk_yes h.1 hn (by omega) hb, h.2⟩) KA hS hg
end Go.Proofs.YtempaadgheondaaDoor
