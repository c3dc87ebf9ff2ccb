/- PrefixCovers' walk. -/
import Derived.Test.YtdaagjlijhmghaaPfxAn
import Derived.Test.YtdaagjlijhmghaaPfxRf
import Derived.Test.YtdaagjlijhmghaaLater
namespace Go.Proofs.Ytdaagjlijhmghaa
open Go.RowKit
set_option maxRecDepth 100000

theorem cmpI_lt {x y : Int} (h : x < y) : cmpI x y = -1 := by unfold cmpI; rw [if_pos h]
theorem cmpI_gt {x y : Int} (h : y < x) : cmpI x y = 1 := by unfold cmpI; rw [if_neg (by omega), if_pos h]
theorem cmpI_eq {x y : Int} (h : x = y) : cmpI x y = 0 := by unfold cmpI; rw [if_neg (by omega), if_neg (by omega)]
theorem ord_lt {A B : Nat} {L M : Int} (h : lessB A L B M = true) : lessB B M A L = false ∧ cmpP A L B M = -1 ∧ cmpP B M A L = 1 := by
  have h0 := of_decide_eq_true h
  refine ⟨decide_eq_false (by omega), ?_, ?_⟩
  · unfold cmpP
    rcases h0 with h0 | ⟨h0, h1⟩
    · rw [cmpI_lt (show (A : Int) < (B : Int) by omega)]; rfl
    · rw [cmpI_eq (show (A : Int) = (B : Int) by omega), cmpI_lt h1]; rfl
  · unfold cmpP
    rcases h0 with h0 | ⟨h0, h1⟩
    · rw [cmpI_gt (show (A : Int) < (B : Int) by omega)]; rfl
    · rw [cmpI_eq (show (B : Int) = (A : Int) by omega), cmpI_gt h1]; rfl
theorem ord_eq {A B : Nat} {L M : Int} (h : lessB A L B M = false) (h2 : lessB B M A L = false) : cmpP A L B M = 0 ∧ cmpP B M A L = 0 := by
  have h0 := of_decide_eq_false h
  have h1 := of_decide_eq_false h2
  have e1 : A = B := by omega
  have e2 : L = M := by omega
  subst e1 e2
  unfold cmpP
  rw [cmpI_eq (show (A : Int) = (A : Int) from rfl), cmpI_eq (show L = L from rfl)]
  exact ⟨rfl, rfl⟩
/-- What the three boxes hold. -/
structure Box3 (w : World) (P A B C : Nat) (L M N : Int) : Prop where
  a0 : w.cell? ⟨P, 0, none⟩ = some (.int .u32 (A : Int))
  a1 : w.cell? ⟨P, 1, none⟩ = some (.int .i64 L)
  b0 : w.cell? ⟨P + 1, 0, none⟩ = some (.int .u32 (B : Int))
  b1 : w.cell? ⟨P + 1, 1, none⟩ = some (.int .i64 M)
  c0 : w.cell? ⟨P + 1 + 1, 0, none⟩ = some (.int .u32 (C : Int))
  c1 : w.cell? ⟨P + 1 + 1, 1, none⟩ = some (.int .i64 N)
theorem Box3.below {w w' : World} {P A B C : Nat} {L M N : Int} (h : Box3 w P A B C L M N) (hb : Below w.heap.size w w') : Box3 w' P A B C L M N :=
  ⟨by rw [hb.cell (p := ⟨P, 0, none⟩) (World.block_lt_of_cell? w _ h.a0)]; exact h.a0, by rw [hb.cell (p := ⟨P, 1, none⟩) (World.block_lt_of_cell? w _ h.a1)]; exact h.a1,
   by rw [hb.cell (p := ⟨P + 1, 0, none⟩) (World.block_lt_of_cell? w _ h.b0)]; exact h.b0, by rw [hb.cell (p := ⟨P + 1, 1, none⟩) (World.block_lt_of_cell? w _ h.b1)]; exact h.b1,
   by rw [hb.cell (p := ⟨P + 1 + 1, 0, none⟩) (World.block_lt_of_cell? w _ h.c0)]; exact h.c0, by rw [hb.cell (p := ⟨P + 1 + 1, 1, none⟩) (World.block_lt_of_cell? w _ h.c1)]; exact h.c1⟩
theorem box3_new (w : World) (A B C : Nat) (L M N : Int) (t : TypeId) : Box3 (((w.alloc (.cells #[.int .u32 (A : Int), .int .i64 L] t)).alloc (.cells #[.int .u32 (B : Int), .int .i64 M] t)).alloc (.cells #[.int .u32 (C : Int), .int .i64 N] t)) w.heap.size A B C L M N := by
  refine ⟨?_, ?_, ?_, ?_, ?_, ?_⟩ <;> simp [go_sem]
theorem cov_at2 {x y : Bool} {f : FuncId} {args : Array Value} {w : World} (e : x = y) (h : Calls Try.prog f args w fun r w' => r = .returned (.bool x) ∧ Below w.heap.size w w') : Calls Try.prog f args w fun r w' => r = .returned (.bool y) ∧ Below w.heap.size w w' := e ▸ h
set_option maxHeartbeats 3200000 in
theorem pcov_lf (A B C : Nat) (L M N : Int) (w : World) (hA : A < 4294967296) (hB : B < 4294967296) (hC : C < 4294967296) (l1 : lessB A L B M = true) (l2 : lessB B M A L = false) (p1 : cmpP A L B M = (-1)) (p2 : cmpP B M A L = 1) (x1 : covB A L B M = false) :
    Calls Try.prog 4 #[pfx A L, pfx B M, pfx C N] w fun e w' => e = .returned (.bool true) ∧ Below w.heap.size w w' := by
  have Hl1 := hide l1
  have Hl2 := hide l2
  have Hp1 := hide p1
  have Hp2 := hide p2
  have Hx1 := hide x1
  clear l1 l2 p1 p2 x1
  unfold pfx
  go_enter Try.func4, Try.ntmps4
  go_wp2_with fail
  have Hs := hide (box3_new w A B C L M N 24)
  have HBs : Hid (Below w.heap.size w (((w.alloc (.cells #[.int .u32 (A : Int), .int .i64 L] 24)).alloc (.cells #[.int .u32 (B : Int), .int .i64 M] 24)).alloc (.cells #[.int .u32 (C : Int), .int .i64 N] 24))) := (((Below.refl _ _).alloc (Nat.le_refl _) _).alloc (by simp) _).alloc (by simp <;> omega) _
  generalize ((w.alloc (.cells #[.int .u32 (A : Int), .int .i64 L] 24)).alloc (.cells #[.int .u32 (B : Int), .int .i64 M] 24)).alloc (.cells #[.int .u32 (C : Int), .int .i64 N] 24) = ws at *
  refine (cov_at2 Hl1.out (less_any A B L M ws)).mono ?_
  rintro e w1 ⟨rfl, hb1⟩
  have H1 := hide (Hs.out.below hb1)
  have HB1 : Hid (Below w.heap.size w w1) := HBs.out.trans (hb1.mono HBs.out.size)
  clear hb1 Hs HBs
  generalize hP : w.heap.size = P at *
  have HP := hide hP
  clear hP
  have a01 := H1.out.a0
  have a11 := H1.out.a1
  have b01 := H1.out.b0
  have b11 := H1.out.b1
  have c01 := H1.out.c0
  have c11 := H1.out.c1
  go_wp2_with fail
  refine (cov_at2 Hl2.out (less_any B A M L w1)).mono ?_
  rintro e w2 ⟨rfl, hb2⟩
  have H2 := hide (H1.out.below hb2)
  have HB2 : Hid (Below P w w2) := HB1.out.trans (hb2.mono (by have := World.block_lt_of_cell? w1 _ a01; simp only at this; omega))
  clear a01 a11 b01 b11 c01 c11
  clear hb2 H1 HB1
  have a02 := H2.out.a0
  have a12 := H2.out.a1
  have b02 := H2.out.b0
  have b12 := H2.out.b1
  have c02 := H2.out.c0
  have c12 := H2.out.c1
  go_wp2_with fail
  obtain ⟨y2, hy2⟩ : ∃ y2, y2 = covB B M C N := ⟨_, rfl⟩
  obtain ⟨y3, hy3⟩ : ∃ y3, y3 = covB A L C N := ⟨_, rfl⟩
  have K1 : ∀ x : Later w2, Calls Try.prog 13 #[.agg #[.int .u32 (A : Int), .int .i64 L], .agg #[.int .u32 (B : Int), .int .i64 M]] x.w fun e w' => e = .returned (.bool false) ∧ ∃ y : Later w2, w' = y.w := fun x => calls_later x (cov_at2 Hx1.out (covers_any A B L M _ hA hB))
  have K2 : ∀ x : Later w2, Calls Try.prog 13 #[.agg #[.int .u32 (B : Int), .int .i64 M], .agg #[.int .u32 (C : Int), .int .i64 N]] x.w fun e w' => e = .returned (.bool y2) ∧ ∃ y : Later w2, w' = y.w := fun x => by rw [hy2]; exact calls_later x (covers_any B C M N _ hB hC)
  have K3 : ∀ x : Later w2, Calls Try.prog 13 #[.agg #[.int .u32 (A : Int), .int .i64 L], .agg #[.int .u32 (C : Int), .int .i64 N]] x.w fun e w' => e = .returned (.bool y3) ∧ ∃ y : Later w2, w' = y.w := fun x => by rw [hy3]; exact calls_later x (covers_any A C L N _ hA hC)
  clear hy2
  clear hy3
  have HK1 := hide K1
  have HK2 := hide K2
  have HK3 := hide K3
  clear K1 K2 K3
  have a0x : ∀ x : Later w2, x.w.cell? ⟨P, 0, none⟩ = some (.int .u32 (A : Int)) := fun x => x.cell a02
  have a1x : ∀ x : Later w2, x.w.cell? ⟨P, 1, none⟩ = some (.int .i64 L) := fun x => x.cell a12
  have b0x : ∀ x : Later w2, x.w.cell? ⟨P + 1, 0, none⟩ = some (.int .u32 (B : Int)) := fun x => x.cell b02
  have b1x : ∀ x : Later w2, x.w.cell? ⟨P + 1, 1, none⟩ = some (.int .i64 M) := fun x => x.cell b12
  have c0x : ∀ x : Later w2, x.w.cell? ⟨P + 1 + 1, 0, none⟩ = some (.int .u32 (C : Int)) := fun x => x.cell c02
  have c1x : ∀ x : Later w2, x.w.cell? ⟨P + 1 + 1, 1, none⟩ = some (.int .i64 N) := fun x => x.cell c12
  have hne := later_some w2
  refine region_later (by kernel_rfl) (by kernel_rfl) ?_
  repeat (go_big_quiet_step (first
    | (go_at_call 13; with_reducible exact HK1.out _)
    | (go_at_call 13; with_reducible exact HK2.out _)
    | (go_at_call 13; with_reducible exact HK3.out _)))
  refine wpQuiet_nil ?_
  rintro _ ⟨xq, rfl⟩
  have H3 := hide (H2.out.below xq.h)
  have HB3 : Hid (Below P w xq.w) := HB2.out.trans (xq.h.mono (by have := World.block_lt_of_cell? w2 _ a02; simp only at this; omega))
  clear a02 a12 b02 b12 c02 c12
  clear a0x a1x b0x b1x c0x c1x H2 HB2 hne HK1 HK2 HK3
  generalize xq.w = w3 at *
  have a03 := H3.out.a0
  have a13 := H3.out.a1
  have b03 := H3.out.b0
  have b13 := H3.out.b1
  have c03 := H3.out.c0
  have c13 := H3.out.c1
  go_wp2_with fail
  refine (answers_any w3).mono ?_
  rintro e w4 ⟨rfl, hb4⟩
  have H4 := hide (H3.out.below hb4)
  have HB4 : Hid (Below P w w4) := HB3.out.trans (hb4.mono (by have := World.block_lt_of_cell? w3 _ a03; simp only at this; omega))
  clear a03 a13 b03 b13 c03 c13
  clear hb4 H3 HB3
  have a04 := H4.out.a0
  have a14 := H4.out.a1
  have b04 := H4.out.b0
  have b14 := H4.out.b1
  have c04 := H4.out.c0
  have c14 := H4.out.c1
  go_wp2_with fail
  refine (cov_at2 Hx1.out (rcovers_any A B L M w4 hA hB)).mono ?_
  rintro e w5 ⟨rfl, hb5⟩
  have H5 := hide (H4.out.below hb5)
  have HB5 : Hid (Below P w w5) := HB4.out.trans (hb5.mono (by have := World.block_lt_of_cell? w4 _ a04; simp only at this; omega))
  clear a04 a14 b04 b14 c04 c14
  clear hb5 H4 HB4
  have a05 := H5.out.a0
  have a15 := H5.out.a1
  have b05 := H5.out.b0
  have b15 := H5.out.b1
  have c05 := H5.out.c0
  have c15 := H5.out.c1
  go_wp2_with fail
  refine (compare_any A B L M w5).mono ?_
  rw [Hp1.out]
  rintro e w6 ⟨rfl, hb6⟩
  have H6 := hide (H5.out.below hb6)
  have HB6 : Hid (Below P w w6) := HB5.out.trans (hb6.mono (by have := World.block_lt_of_cell? w5 _ a05; simp only at this; omega))
  clear a05 a15 b05 b15 c05 c15
  clear hb6 H5 HB5
  have a06 := H6.out.a0
  have a16 := H6.out.a1
  have b06 := H6.out.b0
  have b16 := H6.out.b1
  have c06 := H6.out.c0
  have c16 := H6.out.c1
  go_wp2_with fail
  refine (compare_any B A M L w6).mono ?_
  rw [Hp2.out]
  rintro e w7 ⟨rfl, hb7⟩
  have HB7 : Hid (Below P w w7) := HB6.out.trans (hb7.mono (by have := World.block_lt_of_cell? w6 _ a06; simp only at this; omega))
  clear hb7
  go_wp2
  go_ret
  exact ⟨rfl, by rw [HP.out]; exact HB7.out⟩
set_option maxHeartbeats 3200000 in
theorem pcov_ltf (A B C : Nat) (L M N : Int) (w : World) (hA : A < 4294967296) (hB : B < 4294967296) (hC : C < 4294967296) (l1 : lessB A L B M = true) (l2 : lessB B M A L = false) (p1 : cmpP A L B M = (-1)) (p2 : cmpP B M A L = 1) (x1 : covB A L B M = true) (x2 : covB B M C N = false) :
    Calls Try.prog 4 #[pfx A L, pfx B M, pfx C N] w fun e w' => e = .returned (.bool true) ∧ Below w.heap.size w w' := by
  have Hl1 := hide l1
  have Hl2 := hide l2
  have Hp1 := hide p1
  have Hp2 := hide p2
  have Hx1 := hide x1
  have Hx2 := hide x2
  clear l1 l2 p1 p2 x1 x2
  unfold pfx
  go_enter Try.func4, Try.ntmps4
  go_wp2_with fail
  have Hs := hide (box3_new w A B C L M N 24)
  have HBs : Hid (Below w.heap.size w (((w.alloc (.cells #[.int .u32 (A : Int), .int .i64 L] 24)).alloc (.cells #[.int .u32 (B : Int), .int .i64 M] 24)).alloc (.cells #[.int .u32 (C : Int), .int .i64 N] 24))) := (((Below.refl _ _).alloc (Nat.le_refl _) _).alloc (by simp) _).alloc (by simp <;> omega) _
  generalize ((w.alloc (.cells #[.int .u32 (A : Int), .int .i64 L] 24)).alloc (.cells #[.int .u32 (B : Int), .int .i64 M] 24)).alloc (.cells #[.int .u32 (C : Int), .int .i64 N] 24) = ws at *
  refine (cov_at2 Hl1.out (less_any A B L M ws)).mono ?_
  rintro e w1 ⟨rfl, hb1⟩
  have H1 := hide (Hs.out.below hb1)
  have HB1 : Hid (Below w.heap.size w w1) := HBs.out.trans (hb1.mono HBs.out.size)
  clear hb1 Hs HBs
  generalize hP : w.heap.size = P at *
  have HP := hide hP
  clear hP
  have a01 := H1.out.a0
  have a11 := H1.out.a1
  have b01 := H1.out.b0
  have b11 := H1.out.b1
  have c01 := H1.out.c0
  have c11 := H1.out.c1
  go_wp2_with fail
  refine (cov_at2 Hl2.out (less_any B A M L w1)).mono ?_
  rintro e w2 ⟨rfl, hb2⟩
  have H2 := hide (H1.out.below hb2)
  have HB2 : Hid (Below P w w2) := HB1.out.trans (hb2.mono (by have := World.block_lt_of_cell? w1 _ a01; simp only at this; omega))
  clear a01 a11 b01 b11 c01 c11
  clear hb2 H1 HB1
  have a02 := H2.out.a0
  have a12 := H2.out.a1
  have b02 := H2.out.b0
  have b12 := H2.out.b1
  have c02 := H2.out.c0
  have c12 := H2.out.c1
  go_wp2_with fail
  obtain ⟨y3, hy3⟩ : ∃ y3, y3 = covB A L C N := ⟨_, rfl⟩
  have K1 : ∀ x : Later w2, Calls Try.prog 13 #[.agg #[.int .u32 (A : Int), .int .i64 L], .agg #[.int .u32 (B : Int), .int .i64 M]] x.w fun e w' => e = .returned (.bool true) ∧ ∃ y : Later w2, w' = y.w := fun x => calls_later x (cov_at2 Hx1.out (covers_any A B L M _ hA hB))
  have K2 : ∀ x : Later w2, Calls Try.prog 13 #[.agg #[.int .u32 (B : Int), .int .i64 M], .agg #[.int .u32 (C : Int), .int .i64 N]] x.w fun e w' => e = .returned (.bool false) ∧ ∃ y : Later w2, w' = y.w := fun x => calls_later x (cov_at2 Hx2.out (covers_any B C M N _ hB hC))
  have K3 : ∀ x : Later w2, Calls Try.prog 13 #[.agg #[.int .u32 (A : Int), .int .i64 L], .agg #[.int .u32 (C : Int), .int .i64 N]] x.w fun e w' => e = .returned (.bool y3) ∧ ∃ y : Later w2, w' = y.w := fun x => by rw [hy3]; exact calls_later x (covers_any A C L N _ hA hC)
  clear hy3
  have HK1 := hide K1
  have HK2 := hide K2
  have HK3 := hide K3
  clear K1 K2 K3
  have a0x : ∀ x : Later w2, x.w.cell? ⟨P, 0, none⟩ = some (.int .u32 (A : Int)) := fun x => x.cell a02
  have a1x : ∀ x : Later w2, x.w.cell? ⟨P, 1, none⟩ = some (.int .i64 L) := fun x => x.cell a12
  have b0x : ∀ x : Later w2, x.w.cell? ⟨P + 1, 0, none⟩ = some (.int .u32 (B : Int)) := fun x => x.cell b02
  have b1x : ∀ x : Later w2, x.w.cell? ⟨P + 1, 1, none⟩ = some (.int .i64 M) := fun x => x.cell b12
  have c0x : ∀ x : Later w2, x.w.cell? ⟨P + 1 + 1, 0, none⟩ = some (.int .u32 (C : Int)) := fun x => x.cell c02
  have c1x : ∀ x : Later w2, x.w.cell? ⟨P + 1 + 1, 1, none⟩ = some (.int .i64 N) := fun x => x.cell c12
  have hne := later_some w2
  refine region_later (by kernel_rfl) (by kernel_rfl) ?_
  repeat (go_big_quiet_step (first
    | (go_at_call 13; with_reducible exact HK1.out _)
    | (go_at_call 13; with_reducible exact HK2.out _)
    | (go_at_call 13; with_reducible exact HK3.out _)))
  refine wpQuiet_nil ?_
  rintro _ ⟨xq, rfl⟩
  have H3 := hide (H2.out.below xq.h)
  have HB3 : Hid (Below P w xq.w) := HB2.out.trans (xq.h.mono (by have := World.block_lt_of_cell? w2 _ a02; simp only at this; omega))
  clear a02 a12 b02 b12 c02 c12
  clear a0x a1x b0x b1x c0x c1x H2 HB2 hne HK1 HK2 HK3
  generalize xq.w = w3 at *
  have a03 := H3.out.a0
  have a13 := H3.out.a1
  have b03 := H3.out.b0
  have b13 := H3.out.b1
  have c03 := H3.out.c0
  have c13 := H3.out.c1
  go_wp2_with fail
  refine (answers_any w3).mono ?_
  rintro e w4 ⟨rfl, hb4⟩
  have H4 := hide (H3.out.below hb4)
  have HB4 : Hid (Below P w w4) := HB3.out.trans (hb4.mono (by have := World.block_lt_of_cell? w3 _ a03; simp only at this; omega))
  clear a03 a13 b03 b13 c03 c13
  clear hb4 H3 HB3
  have a04 := H4.out.a0
  have a14 := H4.out.a1
  have b04 := H4.out.b0
  have b14 := H4.out.b1
  have c04 := H4.out.c0
  have c14 := H4.out.c1
  go_wp2_with fail
  refine (cov_at2 Hx1.out (rcovers_any A B L M w4 hA hB)).mono ?_
  rintro e w5 ⟨rfl, hb5⟩
  have H5 := hide (H4.out.below hb5)
  have HB5 : Hid (Below P w w5) := HB4.out.trans (hb5.mono (by have := World.block_lt_of_cell? w4 _ a04; simp only at this; omega))
  clear a04 a14 b04 b14 c04 c14
  clear hb5 H4 HB4
  have a05 := H5.out.a0
  have a15 := H5.out.a1
  have b05 := H5.out.b0
  have b15 := H5.out.b1
  have c05 := H5.out.c0
  have c15 := H5.out.c1
  go_wp2_with fail
  refine (compare_any A B L M w5).mono ?_
  rw [Hp1.out]
  rintro e w6 ⟨rfl, hb6⟩
  have H6 := hide (H5.out.below hb6)
  have HB6 : Hid (Below P w w6) := HB5.out.trans (hb6.mono (by have := World.block_lt_of_cell? w5 _ a05; simp only at this; omega))
  clear a05 a15 b05 b15 c05 c15
  clear hb6 H5 HB5
  have a06 := H6.out.a0
  have a16 := H6.out.a1
  have b06 := H6.out.b0
  have b16 := H6.out.b1
  have c06 := H6.out.c0
  have c16 := H6.out.c1
  go_wp2_with fail
  refine (compare_any B A M L w6).mono ?_
  rw [Hp2.out]
  rintro e w7 ⟨rfl, hb7⟩
  have HB7 : Hid (Below P w w7) := HB6.out.trans (hb7.mono (by have := World.block_lt_of_cell? w6 _ a06; simp only at this; omega))
  clear hb7
  go_wp2
  go_ret
  exact ⟨rfl, by rw [HP.out]; exact HB7.out⟩
set_option maxHeartbeats 3200000 in
theorem pcov_ltt (A B C : Nat) (L M N : Int) (w : World) (hA : A < 4294967296) (hB : B < 4294967296) (hC : C < 4294967296) (l1 : lessB A L B M = true) (l2 : lessB B M A L = false) (p1 : cmpP A L B M = (-1)) (p2 : cmpP B M A L = 1) (x1 : covB A L B M = true) (x2 : covB B M C N = true) (x3 : covB A L C N = true) :
    Calls Try.prog 4 #[pfx A L, pfx B M, pfx C N] w fun e w' => e = .returned (.bool true) ∧ Below w.heap.size w w' := by
  have Hl1 := hide l1
  have Hl2 := hide l2
  have Hp1 := hide p1
  have Hp2 := hide p2
  have Hx1 := hide x1
  have Hx2 := hide x2
  have Hx3 := hide x3
  clear l1 l2 p1 p2 x1 x2 x3
  unfold pfx
  go_enter Try.func4, Try.ntmps4
  go_wp2_with fail
  have Hs := hide (box3_new w A B C L M N 24)
  have HBs : Hid (Below w.heap.size w (((w.alloc (.cells #[.int .u32 (A : Int), .int .i64 L] 24)).alloc (.cells #[.int .u32 (B : Int), .int .i64 M] 24)).alloc (.cells #[.int .u32 (C : Int), .int .i64 N] 24))) := (((Below.refl _ _).alloc (Nat.le_refl _) _).alloc (by simp) _).alloc (by simp <;> omega) _
  generalize ((w.alloc (.cells #[.int .u32 (A : Int), .int .i64 L] 24)).alloc (.cells #[.int .u32 (B : Int), .int .i64 M] 24)).alloc (.cells #[.int .u32 (C : Int), .int .i64 N] 24) = ws at *
  refine (cov_at2 Hl1.out (less_any A B L M ws)).mono ?_
  rintro e w1 ⟨rfl, hb1⟩
  have H1 := hide (Hs.out.below hb1)
  have HB1 : Hid (Below w.heap.size w w1) := HBs.out.trans (hb1.mono HBs.out.size)
  clear hb1 Hs HBs
  generalize hP : w.heap.size = P at *
  have HP := hide hP
  clear hP
  have a01 := H1.out.a0
  have a11 := H1.out.a1
  have b01 := H1.out.b0
  have b11 := H1.out.b1
  have c01 := H1.out.c0
  have c11 := H1.out.c1
  go_wp2_with fail
  refine (cov_at2 Hl2.out (less_any B A M L w1)).mono ?_
  rintro e w2 ⟨rfl, hb2⟩
  have H2 := hide (H1.out.below hb2)
  have HB2 : Hid (Below P w w2) := HB1.out.trans (hb2.mono (by have := World.block_lt_of_cell? w1 _ a01; simp only at this; omega))
  clear a01 a11 b01 b11 c01 c11
  clear hb2 H1 HB1
  have a02 := H2.out.a0
  have a12 := H2.out.a1
  have b02 := H2.out.b0
  have b12 := H2.out.b1
  have c02 := H2.out.c0
  have c12 := H2.out.c1
  go_wp2_with fail
  have K1 : ∀ x : Later w2, Calls Try.prog 13 #[.agg #[.int .u32 (A : Int), .int .i64 L], .agg #[.int .u32 (B : Int), .int .i64 M]] x.w fun e w' => e = .returned (.bool true) ∧ ∃ y : Later w2, w' = y.w := fun x => calls_later x (cov_at2 Hx1.out (covers_any A B L M _ hA hB))
  have K2 : ∀ x : Later w2, Calls Try.prog 13 #[.agg #[.int .u32 (B : Int), .int .i64 M], .agg #[.int .u32 (C : Int), .int .i64 N]] x.w fun e w' => e = .returned (.bool true) ∧ ∃ y : Later w2, w' = y.w := fun x => calls_later x (cov_at2 Hx2.out (covers_any B C M N _ hB hC))
  have K3 : ∀ x : Later w2, Calls Try.prog 13 #[.agg #[.int .u32 (A : Int), .int .i64 L], .agg #[.int .u32 (C : Int), .int .i64 N]] x.w fun e w' => e = .returned (.bool true) ∧ ∃ y : Later w2, w' = y.w := fun x => calls_later x (cov_at2 Hx3.out (covers_any A C L N _ hA hC))
  have HK1 := hide K1
  have HK2 := hide K2
  have HK3 := hide K3
  clear K1 K2 K3
  have a0x : ∀ x : Later w2, x.w.cell? ⟨P, 0, none⟩ = some (.int .u32 (A : Int)) := fun x => x.cell a02
  have a1x : ∀ x : Later w2, x.w.cell? ⟨P, 1, none⟩ = some (.int .i64 L) := fun x => x.cell a12
  have b0x : ∀ x : Later w2, x.w.cell? ⟨P + 1, 0, none⟩ = some (.int .u32 (B : Int)) := fun x => x.cell b02
  have b1x : ∀ x : Later w2, x.w.cell? ⟨P + 1, 1, none⟩ = some (.int .i64 M) := fun x => x.cell b12
  have c0x : ∀ x : Later w2, x.w.cell? ⟨P + 1 + 1, 0, none⟩ = some (.int .u32 (C : Int)) := fun x => x.cell c02
  have c1x : ∀ x : Later w2, x.w.cell? ⟨P + 1 + 1, 1, none⟩ = some (.int .i64 N) := fun x => x.cell c12
  have hne := later_some w2
  refine region_later (by kernel_rfl) (by kernel_rfl) ?_
  repeat (go_big_quiet_step (first
    | (go_at_call 13; with_reducible exact HK1.out _)
    | (go_at_call 13; with_reducible exact HK2.out _)
    | (go_at_call 13; with_reducible exact HK3.out _)))
  refine wpQuiet_nil ?_
  rintro _ ⟨xq, rfl⟩
  have H3 := hide (H2.out.below xq.h)
  have HB3 : Hid (Below P w xq.w) := HB2.out.trans (xq.h.mono (by have := World.block_lt_of_cell? w2 _ a02; simp only at this; omega))
  clear a02 a12 b02 b12 c02 c12
  clear a0x a1x b0x b1x c0x c1x H2 HB2 hne HK1 HK2 HK3
  generalize xq.w = w3 at *
  have a03 := H3.out.a0
  have a13 := H3.out.a1
  have b03 := H3.out.b0
  have b13 := H3.out.b1
  have c03 := H3.out.c0
  have c13 := H3.out.c1
  go_wp2_with fail
  refine (answers_any w3).mono ?_
  rintro e w4 ⟨rfl, hb4⟩
  have H4 := hide (H3.out.below hb4)
  have HB4 : Hid (Below P w w4) := HB3.out.trans (hb4.mono (by have := World.block_lt_of_cell? w3 _ a03; simp only at this; omega))
  clear a03 a13 b03 b13 c03 c13
  clear hb4 H3 HB3
  have a04 := H4.out.a0
  have a14 := H4.out.a1
  have b04 := H4.out.b0
  have b14 := H4.out.b1
  have c04 := H4.out.c0
  have c14 := H4.out.c1
  go_wp2_with fail
  refine (cov_at2 Hx1.out (rcovers_any A B L M w4 hA hB)).mono ?_
  rintro e w5 ⟨rfl, hb5⟩
  have H5 := hide (H4.out.below hb5)
  have HB5 : Hid (Below P w w5) := HB4.out.trans (hb5.mono (by have := World.block_lt_of_cell? w4 _ a04; simp only at this; omega))
  clear a04 a14 b04 b14 c04 c14
  clear hb5 H4 HB4
  have a05 := H5.out.a0
  have a15 := H5.out.a1
  have b05 := H5.out.b0
  have b15 := H5.out.b1
  have c05 := H5.out.c0
  have c15 := H5.out.c1
  go_wp2_with fail
  refine (compare_any A B L M w5).mono ?_
  rw [Hp1.out]
  rintro e w6 ⟨rfl, hb6⟩
  have H6 := hide (H5.out.below hb6)
  have HB6 : Hid (Below P w w6) := HB5.out.trans (hb6.mono (by have := World.block_lt_of_cell? w5 _ a05; simp only at this; omega))
  clear a05 a15 b05 b15 c05 c15
  clear hb6 H5 HB5
  have a06 := H6.out.a0
  have a16 := H6.out.a1
  have b06 := H6.out.b0
  have b16 := H6.out.b1
  have c06 := H6.out.c0
  have c16 := H6.out.c1
  go_wp2_with fail
  refine (compare_any B A M L w6).mono ?_
  rw [Hp2.out]
  rintro e w7 ⟨rfl, hb7⟩
  have HB7 : Hid (Below P w w7) := HB6.out.trans (hb7.mono (by have := World.block_lt_of_cell? w6 _ a06; simp only at this; omega))
  clear hb7
  go_wp2
  go_ret
  exact ⟨rfl, by rw [HP.out]; exact HB7.out⟩
set_option maxHeartbeats 3200000 in
theorem pcov_gf (A B C : Nat) (L M N : Int) (w : World) (hA : A < 4294967296) (hB : B < 4294967296) (hC : C < 4294967296) (l1 : lessB A L B M = false) (l2 : lessB B M A L = true) (p1 : cmpP A L B M = 1) (p2 : cmpP B M A L = (-1)) (x1 : covB A L B M = false) :
    Calls Try.prog 4 #[pfx A L, pfx B M, pfx C N] w fun e w' => e = .returned (.bool true) ∧ Below w.heap.size w w' := by
  have Hl1 := hide l1
  have Hl2 := hide l2
  have Hp1 := hide p1
  have Hp2 := hide p2
  have Hx1 := hide x1
  clear l1 l2 p1 p2 x1
  unfold pfx
  go_enter Try.func4, Try.ntmps4
  go_wp2_with fail
  have Hs := hide (box3_new w A B C L M N 24)
  have HBs : Hid (Below w.heap.size w (((w.alloc (.cells #[.int .u32 (A : Int), .int .i64 L] 24)).alloc (.cells #[.int .u32 (B : Int), .int .i64 M] 24)).alloc (.cells #[.int .u32 (C : Int), .int .i64 N] 24))) := (((Below.refl _ _).alloc (Nat.le_refl _) _).alloc (by simp) _).alloc (by simp <;> omega) _
  generalize ((w.alloc (.cells #[.int .u32 (A : Int), .int .i64 L] 24)).alloc (.cells #[.int .u32 (B : Int), .int .i64 M] 24)).alloc (.cells #[.int .u32 (C : Int), .int .i64 N] 24) = ws at *
  refine (cov_at2 Hl1.out (less_any A B L M ws)).mono ?_
  rintro e w1 ⟨rfl, hb1⟩
  have H1 := hide (Hs.out.below hb1)
  have HB1 : Hid (Below w.heap.size w w1) := HBs.out.trans (hb1.mono HBs.out.size)
  clear hb1 Hs HBs
  generalize hP : w.heap.size = P at *
  have HP := hide hP
  clear hP
  have a01 := H1.out.a0
  have a11 := H1.out.a1
  have b01 := H1.out.b0
  have b11 := H1.out.b1
  have c01 := H1.out.c0
  have c11 := H1.out.c1
  go_wp2_with fail
  refine (cov_at2 Hl2.out (less_any B A M L w1)).mono ?_
  rintro e w2 ⟨rfl, hb2⟩
  have H2 := hide (H1.out.below hb2)
  have HB2 : Hid (Below P w w2) := HB1.out.trans (hb2.mono (by have := World.block_lt_of_cell? w1 _ a01; simp only at this; omega))
  clear a01 a11 b01 b11 c01 c11
  clear hb2 H1 HB1
  have a02 := H2.out.a0
  have a12 := H2.out.a1
  have b02 := H2.out.b0
  have b12 := H2.out.b1
  have c02 := H2.out.c0
  have c12 := H2.out.c1
  go_wp2_with fail
  obtain ⟨y2, hy2⟩ : ∃ y2, y2 = covB B M C N := ⟨_, rfl⟩
  obtain ⟨y3, hy3⟩ : ∃ y3, y3 = covB A L C N := ⟨_, rfl⟩
  have K1 : ∀ x : Later w2, Calls Try.prog 13 #[.agg #[.int .u32 (A : Int), .int .i64 L], .agg #[.int .u32 (B : Int), .int .i64 M]] x.w fun e w' => e = .returned (.bool false) ∧ ∃ y : Later w2, w' = y.w := fun x => calls_later x (cov_at2 Hx1.out (covers_any A B L M _ hA hB))
  have K2 : ∀ x : Later w2, Calls Try.prog 13 #[.agg #[.int .u32 (B : Int), .int .i64 M], .agg #[.int .u32 (C : Int), .int .i64 N]] x.w fun e w' => e = .returned (.bool y2) ∧ ∃ y : Later w2, w' = y.w := fun x => by rw [hy2]; exact calls_later x (covers_any B C M N _ hB hC)
  have K3 : ∀ x : Later w2, Calls Try.prog 13 #[.agg #[.int .u32 (A : Int), .int .i64 L], .agg #[.int .u32 (C : Int), .int .i64 N]] x.w fun e w' => e = .returned (.bool y3) ∧ ∃ y : Later w2, w' = y.w := fun x => by rw [hy3]; exact calls_later x (covers_any A C L N _ hA hC)
  clear hy2
  clear hy3
  have HK1 := hide K1
  have HK2 := hide K2
  have HK3 := hide K3
  clear K1 K2 K3
  have a0x : ∀ x : Later w2, x.w.cell? ⟨P, 0, none⟩ = some (.int .u32 (A : Int)) := fun x => x.cell a02
  have a1x : ∀ x : Later w2, x.w.cell? ⟨P, 1, none⟩ = some (.int .i64 L) := fun x => x.cell a12
  have b0x : ∀ x : Later w2, x.w.cell? ⟨P + 1, 0, none⟩ = some (.int .u32 (B : Int)) := fun x => x.cell b02
  have b1x : ∀ x : Later w2, x.w.cell? ⟨P + 1, 1, none⟩ = some (.int .i64 M) := fun x => x.cell b12
  have c0x : ∀ x : Later w2, x.w.cell? ⟨P + 1 + 1, 0, none⟩ = some (.int .u32 (C : Int)) := fun x => x.cell c02
  have c1x : ∀ x : Later w2, x.w.cell? ⟨P + 1 + 1, 1, none⟩ = some (.int .i64 N) := fun x => x.cell c12
  have hne := later_some w2
  refine region_later (by kernel_rfl) (by kernel_rfl) ?_
  repeat (go_big_quiet_step (first
    | (go_at_call 13; with_reducible exact HK1.out _)
    | (go_at_call 13; with_reducible exact HK2.out _)
    | (go_at_call 13; with_reducible exact HK3.out _)))
  refine wpQuiet_nil ?_
  rintro _ ⟨xq, rfl⟩
  have H3 := hide (H2.out.below xq.h)
  have HB3 : Hid (Below P w xq.w) := HB2.out.trans (xq.h.mono (by have := World.block_lt_of_cell? w2 _ a02; simp only at this; omega))
  clear a02 a12 b02 b12 c02 c12
  clear a0x a1x b0x b1x c0x c1x H2 HB2 hne HK1 HK2 HK3
  generalize xq.w = w3 at *
  have a03 := H3.out.a0
  have a13 := H3.out.a1
  have b03 := H3.out.b0
  have b13 := H3.out.b1
  have c03 := H3.out.c0
  have c13 := H3.out.c1
  go_wp2_with fail
  refine (answers_any w3).mono ?_
  rintro e w4 ⟨rfl, hb4⟩
  have H4 := hide (H3.out.below hb4)
  have HB4 : Hid (Below P w w4) := HB3.out.trans (hb4.mono (by have := World.block_lt_of_cell? w3 _ a03; simp only at this; omega))
  clear a03 a13 b03 b13 c03 c13
  clear hb4 H3 HB3
  have a04 := H4.out.a0
  have a14 := H4.out.a1
  have b04 := H4.out.b0
  have b14 := H4.out.b1
  have c04 := H4.out.c0
  have c14 := H4.out.c1
  go_wp2_with fail
  refine (cov_at2 Hx1.out (rcovers_any A B L M w4 hA hB)).mono ?_
  rintro e w5 ⟨rfl, hb5⟩
  have H5 := hide (H4.out.below hb5)
  have HB5 : Hid (Below P w w5) := HB4.out.trans (hb5.mono (by have := World.block_lt_of_cell? w4 _ a04; simp only at this; omega))
  clear a04 a14 b04 b14 c04 c14
  clear hb5 H4 HB4
  have a05 := H5.out.a0
  have a15 := H5.out.a1
  have b05 := H5.out.b0
  have b15 := H5.out.b1
  have c05 := H5.out.c0
  have c15 := H5.out.c1
  go_wp2_with fail
  refine (compare_any A B L M w5).mono ?_
  rw [Hp1.out]
  rintro e w6 ⟨rfl, hb6⟩
  have H6 := hide (H5.out.below hb6)
  have HB6 : Hid (Below P w w6) := HB5.out.trans (hb6.mono (by have := World.block_lt_of_cell? w5 _ a05; simp only at this; omega))
  clear a05 a15 b05 b15 c05 c15
  clear hb6 H5 HB5
  have a06 := H6.out.a0
  have a16 := H6.out.a1
  have b06 := H6.out.b0
  have b16 := H6.out.b1
  have c06 := H6.out.c0
  have c16 := H6.out.c1
  go_wp2_with fail
  refine (compare_any B A M L w6).mono ?_
  rw [Hp2.out]
  rintro e w7 ⟨rfl, hb7⟩
  have HB7 : Hid (Below P w w7) := HB6.out.trans (hb7.mono (by have := World.block_lt_of_cell? w6 _ a06; simp only at this; omega))
  clear hb7
  go_wp2
  go_ret
  exact ⟨rfl, by rw [HP.out]; exact HB7.out⟩
set_option maxHeartbeats 3200000 in
theorem pcov_gtf (A B C : Nat) (L M N : Int) (w : World) (hA : A < 4294967296) (hB : B < 4294967296) (hC : C < 4294967296) (l1 : lessB A L B M = false) (l2 : lessB B M A L = true) (p1 : cmpP A L B M = 1) (p2 : cmpP B M A L = (-1)) (x1 : covB A L B M = true) (x2 : covB B M C N = false) :
    Calls Try.prog 4 #[pfx A L, pfx B M, pfx C N] w fun e w' => e = .returned (.bool true) ∧ Below w.heap.size w w' := by
  have Hl1 := hide l1
  have Hl2 := hide l2
  have Hp1 := hide p1
  have Hp2 := hide p2
  have Hx1 := hide x1
  have Hx2 := hide x2
  clear l1 l2 p1 p2 x1 x2
  unfold pfx
  go_enter Try.func4, Try.ntmps4
  go_wp2_with fail
  have Hs := hide (box3_new w A B C L M N 24)
  have HBs : Hid (Below w.heap.size w (((w.alloc (.cells #[.int .u32 (A : Int), .int .i64 L] 24)).alloc (.cells #[.int .u32 (B : Int), .int .i64 M] 24)).alloc (.cells #[.int .u32 (C : Int), .int .i64 N] 24))) := (((Below.refl _ _).alloc (Nat.le_refl _) _).alloc (by simp) _).alloc (by simp <;> omega) _
  generalize ((w.alloc (.cells #[.int .u32 (A : Int), .int .i64 L] 24)).alloc (.cells #[.int .u32 (B : Int), .int .i64 M] 24)).alloc (.cells #[.int .u32 (C : Int), .int .i64 N] 24) = ws at *
  refine (cov_at2 Hl1.out (less_any A B L M ws)).mono ?_
  rintro e w1 ⟨rfl, hb1⟩
  have H1 := hide (Hs.out.below hb1)
  have HB1 : Hid (Below w.heap.size w w1) := HBs.out.trans (hb1.mono HBs.out.size)
  clear hb1 Hs HBs
  generalize hP : w.heap.size = P at *
  have HP := hide hP
  clear hP
  have a01 := H1.out.a0
  have a11 := H1.out.a1
  have b01 := H1.out.b0
  have b11 := H1.out.b1
  have c01 := H1.out.c0
  have c11 := H1.out.c1
  go_wp2_with fail
  refine (cov_at2 Hl2.out (less_any B A M L w1)).mono ?_
  rintro e w2 ⟨rfl, hb2⟩
  have H2 := hide (H1.out.below hb2)
  have HB2 : Hid (Below P w w2) := HB1.out.trans (hb2.mono (by have := World.block_lt_of_cell? w1 _ a01; simp only at this; omega))
  clear a01 a11 b01 b11 c01 c11
  clear hb2 H1 HB1
  have a02 := H2.out.a0
  have a12 := H2.out.a1
  have b02 := H2.out.b0
  have b12 := H2.out.b1
  have c02 := H2.out.c0
  have c12 := H2.out.c1
  go_wp2_with fail
  obtain ⟨y3, hy3⟩ : ∃ y3, y3 = covB A L C N := ⟨_, rfl⟩
  have K1 : ∀ x : Later w2, Calls Try.prog 13 #[.agg #[.int .u32 (A : Int), .int .i64 L], .agg #[.int .u32 (B : Int), .int .i64 M]] x.w fun e w' => e = .returned (.bool true) ∧ ∃ y : Later w2, w' = y.w := fun x => calls_later x (cov_at2 Hx1.out (covers_any A B L M _ hA hB))
  have K2 : ∀ x : Later w2, Calls Try.prog 13 #[.agg #[.int .u32 (B : Int), .int .i64 M], .agg #[.int .u32 (C : Int), .int .i64 N]] x.w fun e w' => e = .returned (.bool false) ∧ ∃ y : Later w2, w' = y.w := fun x => calls_later x (cov_at2 Hx2.out (covers_any B C M N _ hB hC))
  have K3 : ∀ x : Later w2, Calls Try.prog 13 #[.agg #[.int .u32 (A : Int), .int .i64 L], .agg #[.int .u32 (C : Int), .int .i64 N]] x.w fun e w' => e = .returned (.bool y3) ∧ ∃ y : Later w2, w' = y.w := fun x => by rw [hy3]; exact calls_later x (covers_any A C L N _ hA hC)
  clear hy3
  have HK1 := hide K1
  have HK2 := hide K2
  have HK3 := hide K3
  clear K1 K2 K3
  have a0x : ∀ x : Later w2, x.w.cell? ⟨P, 0, none⟩ = some (.int .u32 (A : Int)) := fun x => x.cell a02
  have a1x : ∀ x : Later w2, x.w.cell? ⟨P, 1, none⟩ = some (.int .i64 L) := fun x => x.cell a12
  have b0x : ∀ x : Later w2, x.w.cell? ⟨P + 1, 0, none⟩ = some (.int .u32 (B : Int)) := fun x => x.cell b02
  have b1x : ∀ x : Later w2, x.w.cell? ⟨P + 1, 1, none⟩ = some (.int .i64 M) := fun x => x.cell b12
  have c0x : ∀ x : Later w2, x.w.cell? ⟨P + 1 + 1, 0, none⟩ = some (.int .u32 (C : Int)) := fun x => x.cell c02
  have c1x : ∀ x : Later w2, x.w.cell? ⟨P + 1 + 1, 1, none⟩ = some (.int .i64 N) := fun x => x.cell c12
  have hne := later_some w2
  refine region_later (by kernel_rfl) (by kernel_rfl) ?_
  repeat (go_big_quiet_step (first
    | (go_at_call 13; with_reducible exact HK1.out _)
    | (go_at_call 13; with_reducible exact HK2.out _)
    | (go_at_call 13; with_reducible exact HK3.out _)))
  refine wpQuiet_nil ?_
  rintro _ ⟨xq, rfl⟩
  have H3 := hide (H2.out.below xq.h)
  have HB3 : Hid (Below P w xq.w) := HB2.out.trans (xq.h.mono (by have := World.block_lt_of_cell? w2 _ a02; simp only at this; omega))
  clear a02 a12 b02 b12 c02 c12
  clear a0x a1x b0x b1x c0x c1x H2 HB2 hne HK1 HK2 HK3
  generalize xq.w = w3 at *
  have a03 := H3.out.a0
  have a13 := H3.out.a1
  have b03 := H3.out.b0
  have b13 := H3.out.b1
  have c03 := H3.out.c0
  have c13 := H3.out.c1
  go_wp2_with fail
  refine (answers_any w3).mono ?_
  rintro e w4 ⟨rfl, hb4⟩
  have H4 := hide (H3.out.below hb4)
  have HB4 : Hid (Below P w w4) := HB3.out.trans (hb4.mono (by have := World.block_lt_of_cell? w3 _ a03; simp only at this; omega))
  clear a03 a13 b03 b13 c03 c13
  clear hb4 H3 HB3
  have a04 := H4.out.a0
  have a14 := H4.out.a1
  have b04 := H4.out.b0
  have b14 := H4.out.b1
  have c04 := H4.out.c0
  have c14 := H4.out.c1
  go_wp2_with fail
  refine (cov_at2 Hx1.out (rcovers_any A B L M w4 hA hB)).mono ?_
  rintro e w5 ⟨rfl, hb5⟩
  have H5 := hide (H4.out.below hb5)
  have HB5 : Hid (Below P w w5) := HB4.out.trans (hb5.mono (by have := World.block_lt_of_cell? w4 _ a04; simp only at this; omega))
  clear a04 a14 b04 b14 c04 c14
  clear hb5 H4 HB4
  have a05 := H5.out.a0
  have a15 := H5.out.a1
  have b05 := H5.out.b0
  have b15 := H5.out.b1
  have c05 := H5.out.c0
  have c15 := H5.out.c1
  go_wp2_with fail
  refine (compare_any A B L M w5).mono ?_
  rw [Hp1.out]
  rintro e w6 ⟨rfl, hb6⟩
  have H6 := hide (H5.out.below hb6)
  have HB6 : Hid (Below P w w6) := HB5.out.trans (hb6.mono (by have := World.block_lt_of_cell? w5 _ a05; simp only at this; omega))
  clear a05 a15 b05 b15 c05 c15
  clear hb6 H5 HB5
  have a06 := H6.out.a0
  have a16 := H6.out.a1
  have b06 := H6.out.b0
  have b16 := H6.out.b1
  have c06 := H6.out.c0
  have c16 := H6.out.c1
  go_wp2_with fail
  refine (compare_any B A M L w6).mono ?_
  rw [Hp2.out]
  rintro e w7 ⟨rfl, hb7⟩
  have HB7 : Hid (Below P w w7) := HB6.out.trans (hb7.mono (by have := World.block_lt_of_cell? w6 _ a06; simp only at this; omega))
  clear hb7
  go_wp2
  go_ret
  exact ⟨rfl, by rw [HP.out]; exact HB7.out⟩
set_option maxHeartbeats 3200000 in
theorem pcov_gtt (A B C : Nat) (L M N : Int) (w : World) (hA : A < 4294967296) (hB : B < 4294967296) (hC : C < 4294967296) (l1 : lessB A L B M = false) (l2 : lessB B M A L = true) (p1 : cmpP A L B M = 1) (p2 : cmpP B M A L = (-1)) (x1 : covB A L B M = true) (x2 : covB B M C N = true) (x3 : covB A L C N = true) :
    Calls Try.prog 4 #[pfx A L, pfx B M, pfx C N] w fun e w' => e = .returned (.bool true) ∧ Below w.heap.size w w' := by
  have Hl1 := hide l1
  have Hl2 := hide l2
  have Hp1 := hide p1
  have Hp2 := hide p2
  have Hx1 := hide x1
  have Hx2 := hide x2
  have Hx3 := hide x3
  clear l1 l2 p1 p2 x1 x2 x3
  unfold pfx
  go_enter Try.func4, Try.ntmps4
  go_wp2_with fail
  have Hs := hide (box3_new w A B C L M N 24)
  have HBs : Hid (Below w.heap.size w (((w.alloc (.cells #[.int .u32 (A : Int), .int .i64 L] 24)).alloc (.cells #[.int .u32 (B : Int), .int .i64 M] 24)).alloc (.cells #[.int .u32 (C : Int), .int .i64 N] 24))) := (((Below.refl _ _).alloc (Nat.le_refl _) _).alloc (by simp) _).alloc (by simp <;> omega) _
  generalize ((w.alloc (.cells #[.int .u32 (A : Int), .int .i64 L] 24)).alloc (.cells #[.int .u32 (B : Int), .int .i64 M] 24)).alloc (.cells #[.int .u32 (C : Int), .int .i64 N] 24) = ws at *
  refine (cov_at2 Hl1.out (less_any A B L M ws)).mono ?_
  rintro e w1 ⟨rfl, hb1⟩
  have H1 := hide (Hs.out.below hb1)
  have HB1 : Hid (Below w.heap.size w w1) := HBs.out.trans (hb1.mono HBs.out.size)
  clear hb1 Hs HBs
  generalize hP : w.heap.size = P at *
  have HP := hide hP
  clear hP
  have a01 := H1.out.a0
  have a11 := H1.out.a1
  have b01 := H1.out.b0
  have b11 := H1.out.b1
  have c01 := H1.out.c0
  have c11 := H1.out.c1
  go_wp2_with fail
  refine (cov_at2 Hl2.out (less_any B A M L w1)).mono ?_
  rintro e w2 ⟨rfl, hb2⟩
  have H2 := hide (H1.out.below hb2)
  have HB2 : Hid (Below P w w2) := HB1.out.trans (hb2.mono (by have := World.block_lt_of_cell? w1 _ a01; simp only at this; omega))
  clear a01 a11 b01 b11 c01 c11
  clear hb2 H1 HB1
  have a02 := H2.out.a0
  have a12 := H2.out.a1
  have b02 := H2.out.b0
  have b12 := H2.out.b1
  have c02 := H2.out.c0
  have c12 := H2.out.c1
  go_wp2_with fail
  have K1 : ∀ x : Later w2, Calls Try.prog 13 #[.agg #[.int .u32 (A : Int), .int .i64 L], .agg #[.int .u32 (B : Int), .int .i64 M]] x.w fun e w' => e = .returned (.bool true) ∧ ∃ y : Later w2, w' = y.w := fun x => calls_later x (cov_at2 Hx1.out (covers_any A B L M _ hA hB))
  have K2 : ∀ x : Later w2, Calls Try.prog 13 #[.agg #[.int .u32 (B : Int), .int .i64 M], .agg #[.int .u32 (C : Int), .int .i64 N]] x.w fun e w' => e = .returned (.bool true) ∧ ∃ y : Later w2, w' = y.w := fun x => calls_later x (cov_at2 Hx2.out (covers_any B C M N _ hB hC))
  have K3 : ∀ x : Later w2, Calls Try.prog 13 #[.agg #[.int .u32 (A : Int), .int .i64 L], .agg #[.int .u32 (C : Int), .int .i64 N]] x.w fun e w' => e = .returned (.bool true) ∧ ∃ y : Later w2, w' = y.w := fun x => calls_later x (cov_at2 Hx3.out (covers_any A C L N _ hA hC))
  have HK1 := hide K1
  have HK2 := hide K2
  have HK3 := hide K3
  clear K1 K2 K3
  have a0x : ∀ x : Later w2, x.w.cell? ⟨P, 0, none⟩ = some (.int .u32 (A : Int)) := fun x => x.cell a02
  have a1x : ∀ x : Later w2, x.w.cell? ⟨P, 1, none⟩ = some (.int .i64 L) := fun x => x.cell a12
  have b0x : ∀ x : Later w2, x.w.cell? ⟨P + 1, 0, none⟩ = some (.int .u32 (B : Int)) := fun x => x.cell b02
  have b1x : ∀ x : Later w2, x.w.cell? ⟨P + 1, 1, none⟩ = some (.int .i64 M) := fun x => x.cell b12
  have c0x : ∀ x : Later w2, x.w.cell? ⟨P + 1 + 1, 0, none⟩ = some (.int .u32 (C : Int)) := fun x => x.cell c02
  have c1x : ∀ x : Later w2, x.w.cell? ⟨P + 1 + 1, 1, none⟩ = some (.int .i64 N) := fun x => x.cell c12
  have hne := later_some w2
  refine region_later (by kernel_rfl) (by kernel_rfl) ?_
  repeat (go_big_quiet_step (first
    | (go_at_call 13; with_reducible exact HK1.out _)
    | (go_at_call 13; with_reducible exact HK2.out _)
    | (go_at_call 13; with_reducible exact HK3.out _)))
  refine wpQuiet_nil ?_
  rintro _ ⟨xq, rfl⟩
  have H3 := hide (H2.out.below xq.h)
  have HB3 : Hid (Below P w xq.w) := HB2.out.trans (xq.h.mono (by have := World.block_lt_of_cell? w2 _ a02; simp only at this; omega))
  clear a02 a12 b02 b12 c02 c12
  clear a0x a1x b0x b1x c0x c1x H2 HB2 hne HK1 HK2 HK3
  generalize xq.w = w3 at *
  have a03 := H3.out.a0
  have a13 := H3.out.a1
  have b03 := H3.out.b0
  have b13 := H3.out.b1
  have c03 := H3.out.c0
  have c13 := H3.out.c1
  go_wp2_with fail
  refine (answers_any w3).mono ?_
  rintro e w4 ⟨rfl, hb4⟩
  have H4 := hide (H3.out.below hb4)
  have HB4 : Hid (Below P w w4) := HB3.out.trans (hb4.mono (by have := World.block_lt_of_cell? w3 _ a03; simp only at this; omega))
  clear a03 a13 b03 b13 c03 c13
  clear hb4 H3 HB3
  have a04 := H4.out.a0
  have a14 := H4.out.a1
  have b04 := H4.out.b0
  have b14 := H4.out.b1
  have c04 := H4.out.c0
  have c14 := H4.out.c1
  go_wp2_with fail
  refine (cov_at2 Hx1.out (rcovers_any A B L M w4 hA hB)).mono ?_
  rintro e w5 ⟨rfl, hb5⟩
  have H5 := hide (H4.out.below hb5)
  have HB5 : Hid (Below P w w5) := HB4.out.trans (hb5.mono (by have := World.block_lt_of_cell? w4 _ a04; simp only at this; omega))
  clear a04 a14 b04 b14 c04 c14
  clear hb5 H4 HB4
  have a05 := H5.out.a0
  have a15 := H5.out.a1
  have b05 := H5.out.b0
  have b15 := H5.out.b1
  have c05 := H5.out.c0
  have c15 := H5.out.c1
  go_wp2_with fail
  refine (compare_any A B L M w5).mono ?_
  rw [Hp1.out]
  rintro e w6 ⟨rfl, hb6⟩
  have H6 := hide (H5.out.below hb6)
  have HB6 : Hid (Below P w w6) := HB5.out.trans (hb6.mono (by have := World.block_lt_of_cell? w5 _ a05; simp only at this; omega))
  clear a05 a15 b05 b15 c05 c15
  clear hb6 H5 HB5
  have a06 := H6.out.a0
  have a16 := H6.out.a1
  have b06 := H6.out.b0
  have b16 := H6.out.b1
  have c06 := H6.out.c0
  have c16 := H6.out.c1
  go_wp2_with fail
  refine (compare_any B A M L w6).mono ?_
  rw [Hp2.out]
  rintro e w7 ⟨rfl, hb7⟩
  have HB7 : Hid (Below P w w7) := HB6.out.trans (hb7.mono (by have := World.block_lt_of_cell? w6 _ a06; simp only at this; omega))
  clear hb7
  go_wp2
  go_ret
  exact ⟨rfl, by rw [HP.out]; exact HB7.out⟩
set_option maxHeartbeats 3200000 in
theorem pcov_ef (A B C : Nat) (L M N : Int) (w : World) (hA : A < 4294967296) (hB : B < 4294967296) (hC : C < 4294967296) (l1 : lessB A L B M = false) (l2 : lessB B M A L = false) (p1 : cmpP A L B M = 0) (p2 : cmpP B M A L = 0) (x1 : covB A L B M = false) :
    Calls Try.prog 4 #[pfx A L, pfx B M, pfx C N] w fun e w' => e = .returned (.bool true) ∧ Below w.heap.size w w' := by
  have Hl1 := hide l1
  have Hl2 := hide l2
  have Hp1 := hide p1
  have Hp2 := hide p2
  have Hx1 := hide x1
  clear l1 l2 p1 p2 x1
  unfold pfx
  go_enter Try.func4, Try.ntmps4
  go_wp2_with fail
  have Hs := hide (box3_new w A B C L M N 24)
  have HBs : Hid (Below w.heap.size w (((w.alloc (.cells #[.int .u32 (A : Int), .int .i64 L] 24)).alloc (.cells #[.int .u32 (B : Int), .int .i64 M] 24)).alloc (.cells #[.int .u32 (C : Int), .int .i64 N] 24))) := (((Below.refl _ _).alloc (Nat.le_refl _) _).alloc (by simp) _).alloc (by simp <;> omega) _
  generalize ((w.alloc (.cells #[.int .u32 (A : Int), .int .i64 L] 24)).alloc (.cells #[.int .u32 (B : Int), .int .i64 M] 24)).alloc (.cells #[.int .u32 (C : Int), .int .i64 N] 24) = ws at *
  refine (cov_at2 Hl1.out (less_any A B L M ws)).mono ?_
  rintro e w1 ⟨rfl, hb1⟩
  have H1 := hide (Hs.out.below hb1)
  have HB1 : Hid (Below w.heap.size w w1) := HBs.out.trans (hb1.mono HBs.out.size)
  clear hb1 Hs HBs
  generalize hP : w.heap.size = P at *
  have HP := hide hP
  clear hP
  have a01 := H1.out.a0
  have a11 := H1.out.a1
  have b01 := H1.out.b0
  have b11 := H1.out.b1
  have c01 := H1.out.c0
  have c11 := H1.out.c1
  go_wp2_with fail
  refine (cov_at2 Hl2.out (less_any B A M L w1)).mono ?_
  rintro e w2 ⟨rfl, hb2⟩
  have H2 := hide (H1.out.below hb2)
  have HB2 : Hid (Below P w w2) := HB1.out.trans (hb2.mono (by have := World.block_lt_of_cell? w1 _ a01; simp only at this; omega))
  clear a01 a11 b01 b11 c01 c11
  clear hb2 H1 HB1
  have a02 := H2.out.a0
  have a12 := H2.out.a1
  have b02 := H2.out.b0
  have b12 := H2.out.b1
  have c02 := H2.out.c0
  have c12 := H2.out.c1
  go_wp2_with fail
  obtain ⟨y2, hy2⟩ : ∃ y2, y2 = covB B M C N := ⟨_, rfl⟩
  obtain ⟨y3, hy3⟩ : ∃ y3, y3 = covB A L C N := ⟨_, rfl⟩
  have K1 : ∀ x : Later w2, Calls Try.prog 13 #[.agg #[.int .u32 (A : Int), .int .i64 L], .agg #[.int .u32 (B : Int), .int .i64 M]] x.w fun e w' => e = .returned (.bool false) ∧ ∃ y : Later w2, w' = y.w := fun x => calls_later x (cov_at2 Hx1.out (covers_any A B L M _ hA hB))
  have K2 : ∀ x : Later w2, Calls Try.prog 13 #[.agg #[.int .u32 (B : Int), .int .i64 M], .agg #[.int .u32 (C : Int), .int .i64 N]] x.w fun e w' => e = .returned (.bool y2) ∧ ∃ y : Later w2, w' = y.w := fun x => by rw [hy2]; exact calls_later x (covers_any B C M N _ hB hC)
  have K3 : ∀ x : Later w2, Calls Try.prog 13 #[.agg #[.int .u32 (A : Int), .int .i64 L], .agg #[.int .u32 (C : Int), .int .i64 N]] x.w fun e w' => e = .returned (.bool y3) ∧ ∃ y : Later w2, w' = y.w := fun x => by rw [hy3]; exact calls_later x (covers_any A C L N _ hA hC)
  clear hy2
  clear hy3
  have HK1 := hide K1
  have HK2 := hide K2
  have HK3 := hide K3
  clear K1 K2 K3
  have a0x : ∀ x : Later w2, x.w.cell? ⟨P, 0, none⟩ = some (.int .u32 (A : Int)) := fun x => x.cell a02
  have a1x : ∀ x : Later w2, x.w.cell? ⟨P, 1, none⟩ = some (.int .i64 L) := fun x => x.cell a12
  have b0x : ∀ x : Later w2, x.w.cell? ⟨P + 1, 0, none⟩ = some (.int .u32 (B : Int)) := fun x => x.cell b02
  have b1x : ∀ x : Later w2, x.w.cell? ⟨P + 1, 1, none⟩ = some (.int .i64 M) := fun x => x.cell b12
  have c0x : ∀ x : Later w2, x.w.cell? ⟨P + 1 + 1, 0, none⟩ = some (.int .u32 (C : Int)) := fun x => x.cell c02
  have c1x : ∀ x : Later w2, x.w.cell? ⟨P + 1 + 1, 1, none⟩ = some (.int .i64 N) := fun x => x.cell c12
  have hne := later_some w2
  refine region_later (by kernel_rfl) (by kernel_rfl) ?_
  repeat (go_big_quiet_step (first
    | (go_at_call 13; with_reducible exact HK1.out _)
    | (go_at_call 13; with_reducible exact HK2.out _)
    | (go_at_call 13; with_reducible exact HK3.out _)))
  refine wpQuiet_nil ?_
  rintro _ ⟨xq, rfl⟩
  have H3 := hide (H2.out.below xq.h)
  have HB3 : Hid (Below P w xq.w) := HB2.out.trans (xq.h.mono (by have := World.block_lt_of_cell? w2 _ a02; simp only at this; omega))
  clear a02 a12 b02 b12 c02 c12
  clear a0x a1x b0x b1x c0x c1x H2 HB2 hne HK1 HK2 HK3
  generalize xq.w = w3 at *
  have a03 := H3.out.a0
  have a13 := H3.out.a1
  have b03 := H3.out.b0
  have b13 := H3.out.b1
  have c03 := H3.out.c0
  have c13 := H3.out.c1
  go_wp2_with fail
  refine (answers_any w3).mono ?_
  rintro e w4 ⟨rfl, hb4⟩
  have H4 := hide (H3.out.below hb4)
  have HB4 : Hid (Below P w w4) := HB3.out.trans (hb4.mono (by have := World.block_lt_of_cell? w3 _ a03; simp only at this; omega))
  clear a03 a13 b03 b13 c03 c13
  clear hb4 H3 HB3
  have a04 := H4.out.a0
  have a14 := H4.out.a1
  have b04 := H4.out.b0
  have b14 := H4.out.b1
  have c04 := H4.out.c0
  have c14 := H4.out.c1
  go_wp2_with fail
  refine (cov_at2 Hx1.out (rcovers_any A B L M w4 hA hB)).mono ?_
  rintro e w5 ⟨rfl, hb5⟩
  have H5 := hide (H4.out.below hb5)
  have HB5 : Hid (Below P w w5) := HB4.out.trans (hb5.mono (by have := World.block_lt_of_cell? w4 _ a04; simp only at this; omega))
  clear a04 a14 b04 b14 c04 c14
  clear hb5 H4 HB4
  have a05 := H5.out.a0
  have a15 := H5.out.a1
  have b05 := H5.out.b0
  have b15 := H5.out.b1
  have c05 := H5.out.c0
  have c15 := H5.out.c1
  go_wp2_with fail
  refine (compare_any A B L M w5).mono ?_
  rw [Hp1.out]
  rintro e w6 ⟨rfl, hb6⟩
  have H6 := hide (H5.out.below hb6)
  have HB6 : Hid (Below P w w6) := HB5.out.trans (hb6.mono (by have := World.block_lt_of_cell? w5 _ a05; simp only at this; omega))
  clear a05 a15 b05 b15 c05 c15
  clear hb6 H5 HB5
  have a06 := H6.out.a0
  have a16 := H6.out.a1
  have b06 := H6.out.b0
  have b16 := H6.out.b1
  have c06 := H6.out.c0
  have c16 := H6.out.c1
  go_wp2_with fail
  refine (compare_any B A M L w6).mono ?_
  rw [Hp2.out]
  rintro e w7 ⟨rfl, hb7⟩
  have HB7 : Hid (Below P w w7) := HB6.out.trans (hb7.mono (by have := World.block_lt_of_cell? w6 _ a06; simp only at this; omega))
  clear hb7
  go_wp2
  go_ret
  exact ⟨rfl, by rw [HP.out]; exact HB7.out⟩
set_option maxHeartbeats 3200000 in
theorem pcov_etf (A B C : Nat) (L M N : Int) (w : World) (hA : A < 4294967296) (hB : B < 4294967296) (hC : C < 4294967296) (l1 : lessB A L B M = false) (l2 : lessB B M A L = false) (p1 : cmpP A L B M = 0) (p2 : cmpP B M A L = 0) (x1 : covB A L B M = true) (x2 : covB B M C N = false) :
    Calls Try.prog 4 #[pfx A L, pfx B M, pfx C N] w fun e w' => e = .returned (.bool true) ∧ Below w.heap.size w w' := by
  have Hl1 := hide l1
  have Hl2 := hide l2
  have Hp1 := hide p1
  have Hp2 := hide p2
  have Hx1 := hide x1
  have Hx2 := hide x2
  clear l1 l2 p1 p2 x1 x2
  unfold pfx
  go_enter Try.func4, Try.ntmps4
  go_wp2_with fail
  have Hs := hide (box3_new w A B C L M N 24)
  have HBs : Hid (Below w.heap.size w (((w.alloc (.cells #[.int .u32 (A : Int), .int .i64 L] 24)).alloc (.cells #[.int .u32 (B : Int), .int .i64 M] 24)).alloc (.cells #[.int .u32 (C : Int), .int .i64 N] 24))) := (((Below.refl _ _).alloc (Nat.le_refl _) _).alloc (by simp) _).alloc (by simp <;> omega) _
  generalize ((w.alloc (.cells #[.int .u32 (A : Int), .int .i64 L] 24)).alloc (.cells #[.int .u32 (B : Int), .int .i64 M] 24)).alloc (.cells #[.int .u32 (C : Int), .int .i64 N] 24) = ws at *
  refine (cov_at2 Hl1.out (less_any A B L M ws)).mono ?_
  rintro e w1 ⟨rfl, hb1⟩
  have H1 := hide (Hs.out.below hb1)
  have HB1 : Hid (Below w.heap.size w w1) := HBs.out.trans (hb1.mono HBs.out.size)
  clear hb1 Hs HBs
  generalize hP : w.heap.size = P at *
  have HP := hide hP
  clear hP
  have a01 := H1.out.a0
  have a11 := H1.out.a1
  have b01 := H1.out.b0
  have b11 := H1.out.b1
  have c01 := H1.out.c0
  have c11 := H1.out.c1
  go_wp2_with fail
  refine (cov_at2 Hl2.out (less_any B A M L w1)).mono ?_
  rintro e w2 ⟨rfl, hb2⟩
  have H2 := hide (H1.out.below hb2)
  have HB2 : Hid (Below P w w2) := HB1.out.trans (hb2.mono (by have := World.block_lt_of_cell? w1 _ a01; simp only at this; omega))
  clear a01 a11 b01 b11 c01 c11
  clear hb2 H1 HB1
  have a02 := H2.out.a0
  have a12 := H2.out.a1
  have b02 := H2.out.b0
  have b12 := H2.out.b1
  have c02 := H2.out.c0
  have c12 := H2.out.c1
  go_wp2_with fail
  obtain ⟨y3, hy3⟩ : ∃ y3, y3 = covB A L C N := ⟨_, rfl⟩
  have K1 : ∀ x : Later w2, Calls Try.prog 13 #[.agg #[.int .u32 (A : Int), .int .i64 L], .agg #[.int .u32 (B : Int), .int .i64 M]] x.w fun e w' => e = .returned (.bool true) ∧ ∃ y : Later w2, w' = y.w := fun x => calls_later x (cov_at2 Hx1.out (covers_any A B L M _ hA hB))
  have K2 : ∀ x : Later w2, Calls Try.prog 13 #[.agg #[.int .u32 (B : Int), .int .i64 M], .agg #[.int .u32 (C : Int), .int .i64 N]] x.w fun e w' => e = .returned (.bool false) ∧ ∃ y : Later w2, w' = y.w := fun x => calls_later x (cov_at2 Hx2.out (covers_any B C M N _ hB hC))
  have K3 : ∀ x : Later w2, Calls Try.prog 13 #[.agg #[.int .u32 (A : Int), .int .i64 L], .agg #[.int .u32 (C : Int), .int .i64 N]] x.w fun e w' => e = .returned (.bool y3) ∧ ∃ y : Later w2, w' = y.w := fun x => by rw [hy3]; exact calls_later x (covers_any A C L N _ hA hC)
  clear hy3
  have HK1 := hide K1
  have HK2 := hide K2
  have HK3 := hide K3
  clear K1 K2 K3
  have a0x : ∀ x : Later w2, x.w.cell? ⟨P, 0, none⟩ = some (.int .u32 (A : Int)) := fun x => x.cell a02
  have a1x : ∀ x : Later w2, x.w.cell? ⟨P, 1, none⟩ = some (.int .i64 L) := fun x => x.cell a12
  have b0x : ∀ x : Later w2, x.w.cell? ⟨P + 1, 0, none⟩ = some (.int .u32 (B : Int)) := fun x => x.cell b02
  have b1x : ∀ x : Later w2, x.w.cell? ⟨P + 1, 1, none⟩ = some (.int .i64 M) := fun x => x.cell b12
  have c0x : ∀ x : Later w2, x.w.cell? ⟨P + 1 + 1, 0, none⟩ = some (.int .u32 (C : Int)) := fun x => x.cell c02
  have c1x : ∀ x : Later w2, x.w.cell? ⟨P + 1 + 1, 1, none⟩ = some (.int .i64 N) := fun x => x.cell c12
  have hne := later_some w2
  refine region_later (by kernel_rfl) (by kernel_rfl) ?_
  repeat (go_big_quiet_step (first
    | (go_at_call 13; with_reducible exact HK1.out _)
    | (go_at_call 13; with_reducible exact HK2.out _)
    | (go_at_call 13; with_reducible exact HK3.out _)))
  refine wpQuiet_nil ?_
  rintro _ ⟨xq, rfl⟩
  have H3 := hide (H2.out.below xq.h)
  have HB3 : Hid (Below P w xq.w) := HB2.out.trans (xq.h.mono (by have := World.block_lt_of_cell? w2 _ a02; simp only at this; omega))
  clear a02 a12 b02 b12 c02 c12
  clear a0x a1x b0x b1x c0x c1x H2 HB2 hne HK1 HK2 HK3
  generalize xq.w = w3 at *
  have a03 := H3.out.a0
  have a13 := H3.out.a1
  have b03 := H3.out.b0
  have b13 := H3.out.b1
  have c03 := H3.out.c0
  have c13 := H3.out.c1
  go_wp2_with fail
  refine (answers_any w3).mono ?_
  rintro e w4 ⟨rfl, hb4⟩
  have H4 := hide (H3.out.below hb4)
  have HB4 : Hid (Below P w w4) := HB3.out.trans (hb4.mono (by have := World.block_lt_of_cell? w3 _ a03; simp only at this; omega))
  clear a03 a13 b03 b13 c03 c13
  clear hb4 H3 HB3
  have a04 := H4.out.a0
  have a14 := H4.out.a1
  have b04 := H4.out.b0
  have b14 := H4.out.b1
  have c04 := H4.out.c0
  have c14 := H4.out.c1
  go_wp2_with fail
  refine (cov_at2 Hx1.out (rcovers_any A B L M w4 hA hB)).mono ?_
  rintro e w5 ⟨rfl, hb5⟩
  have H5 := hide (H4.out.below hb5)
  have HB5 : Hid (Below P w w5) := HB4.out.trans (hb5.mono (by have := World.block_lt_of_cell? w4 _ a04; simp only at this; omega))
  clear a04 a14 b04 b14 c04 c14
  clear hb5 H4 HB4
  have a05 := H5.out.a0
  have a15 := H5.out.a1
  have b05 := H5.out.b0
  have b15 := H5.out.b1
  have c05 := H5.out.c0
  have c15 := H5.out.c1
  go_wp2_with fail
  refine (compare_any A B L M w5).mono ?_
  rw [Hp1.out]
  rintro e w6 ⟨rfl, hb6⟩
  have H6 := hide (H5.out.below hb6)
  have HB6 : Hid (Below P w w6) := HB5.out.trans (hb6.mono (by have := World.block_lt_of_cell? w5 _ a05; simp only at this; omega))
  clear a05 a15 b05 b15 c05 c15
  clear hb6 H5 HB5
  have a06 := H6.out.a0
  have a16 := H6.out.a1
  have b06 := H6.out.b0
  have b16 := H6.out.b1
  have c06 := H6.out.c0
  have c16 := H6.out.c1
  go_wp2_with fail
  refine (compare_any B A M L w6).mono ?_
  rw [Hp2.out]
  rintro e w7 ⟨rfl, hb7⟩
  have HB7 : Hid (Below P w w7) := HB6.out.trans (hb7.mono (by have := World.block_lt_of_cell? w6 _ a06; simp only at this; omega))
  clear hb7
  go_wp2
  go_ret
  exact ⟨rfl, by rw [HP.out]; exact HB7.out⟩
set_option maxHeartbeats 3200000 in
theorem pcov_ett (A B C : Nat) (L M N : Int) (w : World) (hA : A < 4294967296) (hB : B < 4294967296) (hC : C < 4294967296) (l1 : lessB A L B M = false) (l2 : lessB B M A L = false) (p1 : cmpP A L B M = 0) (p2 : cmpP B M A L = 0) (x1 : covB A L B M = true) (x2 : covB B M C N = true) (x3 : covB A L C N = true) :
    Calls Try.prog 4 #[pfx A L, pfx B M, pfx C N] w fun e w' => e = .returned (.bool true) ∧ Below w.heap.size w w' := by
  have Hl1 := hide l1
  have Hl2 := hide l2
  have Hp1 := hide p1
  have Hp2 := hide p2
  have Hx1 := hide x1
  have Hx2 := hide x2
  have Hx3 := hide x3
  clear l1 l2 p1 p2 x1 x2 x3
  unfold pfx
  go_enter Try.func4, Try.ntmps4
  go_wp2_with fail
  have Hs := hide (box3_new w A B C L M N 24)
  have HBs : Hid (Below w.heap.size w (((w.alloc (.cells #[.int .u32 (A : Int), .int .i64 L] 24)).alloc (.cells #[.int .u32 (B : Int), .int .i64 M] 24)).alloc (.cells #[.int .u32 (C : Int), .int .i64 N] 24))) := (((Below.refl _ _).alloc (Nat.le_refl _) _).alloc (by simp) _).alloc (by simp <;> omega) _
  generalize ((w.alloc (.cells #[.int .u32 (A : Int), .int .i64 L] 24)).alloc (.cells #[.int .u32 (B : Int), .int .i64 M] 24)).alloc (.cells #[.int .u32 (C : Int), .int .i64 N] 24) = ws at *
  refine (cov_at2 Hl1.out (less_any A B L M ws)).mono ?_
  rintro e w1 ⟨rfl, hb1⟩
  have H1 := hide (Hs.out.below hb1)
  have HB1 : Hid (Below w.heap.size w w1) := HBs.out.trans (hb1.mono HBs.out.size)
  clear hb1 Hs HBs
  generalize hP : w.heap.size = P at *
  have HP := hide hP
  clear hP
  have a01 := H1.out.a0
  have a11 := H1.out.a1
  have b01 := H1.out.b0
  have b11 := H1.out.b1
  have c01 := H1.out.c0
  have c11 := H1.out.c1
  go_wp2_with fail
  refine (cov_at2 Hl2.out (less_any B A M L w1)).mono ?_
  rintro e w2 ⟨rfl, hb2⟩
  have H2 := hide (H1.out.below hb2)
  have HB2 : Hid (Below P w w2) := HB1.out.trans (hb2.mono (by have := World.block_lt_of_cell? w1 _ a01; simp only at this; omega))
  clear a01 a11 b01 b11 c01 c11
  clear hb2 H1 HB1
  have a02 := H2.out.a0
  have a12 := H2.out.a1
  have b02 := H2.out.b0
  have b12 := H2.out.b1
  have c02 := H2.out.c0
  have c12 := H2.out.c1
  go_wp2_with fail
  have K1 : ∀ x : Later w2, Calls Try.prog 13 #[.agg #[.int .u32 (A : Int), .int .i64 L], .agg #[.int .u32 (B : Int), .int .i64 M]] x.w fun e w' => e = .returned (.bool true) ∧ ∃ y : Later w2, w' = y.w := fun x => calls_later x (cov_at2 Hx1.out (covers_any A B L M _ hA hB))
  have K2 : ∀ x : Later w2, Calls Try.prog 13 #[.agg #[.int .u32 (B : Int), .int .i64 M], .agg #[.int .u32 (C : Int), .int .i64 N]] x.w fun e w' => e = .returned (.bool true) ∧ ∃ y : Later w2, w' = y.w := fun x => calls_later x (cov_at2 Hx2.out (covers_any B C M N _ hB hC))
  have K3 : ∀ x : Later w2, Calls Try.prog 13 #[.agg #[.int .u32 (A : Int), .int .i64 L], .agg #[.int .u32 (C : Int), .int .i64 N]] x.w fun e w' => e = .returned (.bool true) ∧ ∃ y : Later w2, w' = y.w := fun x => calls_later x (cov_at2 Hx3.out (covers_any A C L N _ hA hC))
  have HK1 := hide K1
  have HK2 := hide K2
  have HK3 := hide K3
  clear K1 K2 K3
  have a0x : ∀ x : Later w2, x.w.cell? ⟨P, 0, none⟩ = some (.int .u32 (A : Int)) := fun x => x.cell a02
  have a1x : ∀ x : Later w2, x.w.cell? ⟨P, 1, none⟩ = some (.int .i64 L) := fun x => x.cell a12
  have b0x : ∀ x : Later w2, x.w.cell? ⟨P + 1, 0, none⟩ = some (.int .u32 (B : Int)) := fun x => x.cell b02
  have b1x : ∀ x : Later w2, x.w.cell? ⟨P + 1, 1, none⟩ = some (.int .i64 M) := fun x => x.cell b12
  have c0x : ∀ x : Later w2, x.w.cell? ⟨P + 1 + 1, 0, none⟩ = some (.int .u32 (C : Int)) := fun x => x.cell c02
  have c1x : ∀ x : Later w2, x.w.cell? ⟨P + 1 + 1, 1, none⟩ = some (.int .i64 N) := fun x => x.cell c12
  have hne := later_some w2
  refine region_later (by kernel_rfl) (by kernel_rfl) ?_
  repeat (go_big_quiet_step (first
    | (go_at_call 13; with_reducible exact HK1.out _)
    | (go_at_call 13; with_reducible exact HK2.out _)
    | (go_at_call 13; with_reducible exact HK3.out _)))
  refine wpQuiet_nil ?_
  rintro _ ⟨xq, rfl⟩
  have H3 := hide (H2.out.below xq.h)
  have HB3 : Hid (Below P w xq.w) := HB2.out.trans (xq.h.mono (by have := World.block_lt_of_cell? w2 _ a02; simp only at this; omega))
  clear a02 a12 b02 b12 c02 c12
  clear a0x a1x b0x b1x c0x c1x H2 HB2 hne HK1 HK2 HK3
  generalize xq.w = w3 at *
  have a03 := H3.out.a0
  have a13 := H3.out.a1
  have b03 := H3.out.b0
  have b13 := H3.out.b1
  have c03 := H3.out.c0
  have c13 := H3.out.c1
  go_wp2_with fail
  refine (answers_any w3).mono ?_
  rintro e w4 ⟨rfl, hb4⟩
  have H4 := hide (H3.out.below hb4)
  have HB4 : Hid (Below P w w4) := HB3.out.trans (hb4.mono (by have := World.block_lt_of_cell? w3 _ a03; simp only at this; omega))
  clear a03 a13 b03 b13 c03 c13
  clear hb4 H3 HB3
  have a04 := H4.out.a0
  have a14 := H4.out.a1
  have b04 := H4.out.b0
  have b14 := H4.out.b1
  have c04 := H4.out.c0
  have c14 := H4.out.c1
  go_wp2_with fail
  refine (cov_at2 Hx1.out (rcovers_any A B L M w4 hA hB)).mono ?_
  rintro e w5 ⟨rfl, hb5⟩
  have H5 := hide (H4.out.below hb5)
  have HB5 : Hid (Below P w w5) := HB4.out.trans (hb5.mono (by have := World.block_lt_of_cell? w4 _ a04; simp only at this; omega))
  clear a04 a14 b04 b14 c04 c14
  clear hb5 H4 HB4
  have a05 := H5.out.a0
  have a15 := H5.out.a1
  have b05 := H5.out.b0
  have b15 := H5.out.b1
  have c05 := H5.out.c0
  have c15 := H5.out.c1
  go_wp2_with fail
  refine (compare_any A B L M w5).mono ?_
  rw [Hp1.out]
  rintro e w6 ⟨rfl, hb6⟩
  have H6 := hide (H5.out.below hb6)
  have HB6 : Hid (Below P w w6) := HB5.out.trans (hb6.mono (by have := World.block_lt_of_cell? w5 _ a05; simp only at this; omega))
  clear a05 a15 b05 b15 c05 c15
  clear hb6 H5 HB5
  have a06 := H6.out.a0
  have a16 := H6.out.a1
  have b06 := H6.out.b0
  have b16 := H6.out.b1
  have c06 := H6.out.c0
  have c16 := H6.out.c1
  go_wp2_with fail
  refine (compare_any B A M L w6).mono ?_
  rw [Hp2.out]
  rintro e w7 ⟨rfl, hb7⟩
  have HB7 : Hid (Below P w w7) := HB6.out.trans (hb7.mono (by have := World.block_lt_of_cell? w6 _ a06; simp only at this; omega))
  clear hb7
  go_wp2
  go_ret
  exact ⟨rfl, by rw [HP.out]; exact HB7.out⟩
theorem prefixCovers_in (A B C : Nat) (L M N : Int) (w : World) (hA : A < 4294967296) (hB : B < 4294967296) (hC : C < 4294967296) :
    Calls Try.prog 4 #[pfx A L, pfx B M, pfx C N] w fun e w' => e = .returned (.bool true) ∧ Below w.heap.size w w' := by
  cases l1 : lessB A L B M with
  | true =>
    obtain ⟨l2, p1, p2⟩ := ord_lt l1
    cases x1 : covB A L B M with
    | false => exact pcov_lf A B C L M N w hA hB hC l1 l2 p1 p2 x1
    | true =>
      cases x2 : covB B M C N with
      | false => exact pcov_ltf A B C L M N w hA hB hC l1 l2 p1 p2 x1 x2
      | true => exact pcov_ltt A B C L M N w hA hB hC l1 l2 p1 p2 x1 x2 (cov_trans x1 x2)
  | false =>
    cases l2 : lessB B M A L with
    | true =>
      obtain ⟨_, p2, p1⟩ := ord_lt l2
      cases x1 : covB A L B M with
      | false => exact pcov_gf A B C L M N w hA hB hC l1 l2 p1 p2 x1
      | true =>
        cases x2 : covB B M C N with
        | false => exact pcov_gtf A B C L M N w hA hB hC l1 l2 p1 p2 x1 x2
        | true => exact pcov_gtt A B C L M N w hA hB hC l1 l2 p1 p2 x1 x2 (cov_trans x1 x2)
    | false =>
      obtain ⟨p1, p2⟩ := ord_eq l1 l2
      cases x1 : covB A L B M with
      | false => exact pcov_ef A B C L M N w hA hB hC l1 l2 p1 p2 x1
      | true =>
        cases x2 : covB B M C N with
        | false => exact pcov_etf A B C L M N w hA hB hC l1 l2 p1 p2 x1 x2
        | true => exact pcov_ett A B C L M N w hA hB hC l1 l2 p1 p2 x1 x2 (cov_trans x1 x2)
end Go.Proofs.Ytdaagjlijhmghaa
