/- PrefixHost's walk. -/
import Derived.Test.YtdaagjlijhmghaaPfxAn
import Derived.Test.YtdaagjlijhmghaaLater
namespace Go.Proofs.Ytdaagjlijhmghaa
open Go.RowKit
set_option maxRecDepth 100000

/-- What the three boxes hold. -/
structure Boxes (w : World) (P Q R X Y Z k l : Nat) : Prop where
  p0 : w.cell? ⟨P, 0, none⟩ = some (.int .u32 (X : Int))
  p1 : w.cell? ⟨P, 1, none⟩ = some (.int .i64 (k : Int))
  q0 : w.cell? ⟨Q, 0, none⟩ = some (.int .u32 (Y : Int))
  q1 : w.cell? ⟨Q, 1, none⟩ = some (.int .i64 (l : Int))
  r0 : w.cell? ⟨R, 0, none⟩ = some (.int .u32 (Z : Int))
  r1 : w.cell? ⟨R, 1, none⟩ = some (.int .i64 (k : Int))
theorem Boxes.later {w0 : World} (x : Later w0) {P Q R X Y Z k l : Nat} (h : Boxes w0 P Q R X Y Z k l) : Boxes x.w P Q R X Y Z k l :=
  ⟨x.cell h.p0, x.cell h.p1, x.cell h.q0, x.cell h.q1, x.cell h.r0, x.cell h.r1⟩
/-- What is known of the three makings. -/
structure HostF (X Y Z k l : Nat) (bkl bxz : Bool) : Prop where
  hx : X < 4294967296
  hy : Y < 4294967296
  hz : Z < 4294967296
  v1 : covB X (k : Int) Y (l : Int) = true
  v2 : covB Y (l : Int) X (k : Int) = bkl
  v3 : covB X (k : Int) Z (k : Int) = bxz
theorem hostF (a b k l : Nat) (ha : a < 4294967296) (hb : b < 4294967296) (hk : k ≤ l) (hl : l ≤ 32) : HostF (cutTo a k) (cutTo a l) (cutTo b k) k l (decide (k = l)) (decide (cutTo a k = cutTo b k)) :=
  ⟨cutTo_lt a k ha, cutTo_lt a l ha, cutTo_lt b k hb, cov_host a k l hk hl, by rw [cov_back a k l hk hl, Bool.eq_iff_iff]; simp; omega, cov_same a b k (by omega)⟩
theorem boxes_of (a b k l P : Nat) (w2 w3 : World) (hz : P < w2.heap.size) (h0 : w2.cell? ⟨P, 0, none⟩ = some (.int .u32 (cutTo a k : Int))) (h1 : w2.cell? ⟨P, 1, none⟩ = some (.int .i64 (k : Int)))
    (hb3 : Below (w2.alloc (.cells #[.int .u32 (cutTo a l : Int), .int .i64 (l : Int)] 24)).heap.size (w2.alloc (.cells #[.int .u32 (cutTo a l : Int), .int .i64 (l : Int)] 24)) w3) :
    Boxes (w3.alloc (.cells #[.int .u32 (cutTo b k : Int), .int .i64 (k : Int)] 24)) P w2.heap.size w3.heap.size (cutTo a k) (cutTo a l) (cutTo b k) k l := by
  have hs := hb3.size
  simp at hs
  refine ⟨?_, ?_, ?_, ?_, ?_, ?_⟩
  · rw [World.cell?_alloc_lt _ _ _ (by show P < w3.heap.size; omega), hb3.cell (p := ⟨P, 0, none⟩) (by simp <;> omega), World.cell?_alloc_lt _ _ _ (by exact hz)]; exact h0
  · rw [World.cell?_alloc_lt _ _ _ (by show P < w3.heap.size; omega), hb3.cell (p := ⟨P, 1, none⟩) (by simp <;> omega), World.cell?_alloc_lt _ _ _ (by exact hz)]; exact h1
  · rw [World.cell?_alloc_lt _ _ _ (by show w2.heap.size < w3.heap.size; omega), hb3.cell (p := ⟨w2.heap.size, 0, none⟩) (by simp <;> omega)]; simp [go_sem]
  · rw [World.cell?_alloc_lt _ _ _ (by show w2.heap.size < w3.heap.size; omega), hb3.cell (p := ⟨w2.heap.size, 1, none⟩) (by simp <;> omega)]; simp [go_sem]
  · simp [go_sem]
  · simp [go_sem]
theorem cov_at {x y : Bool} {f : FuncId} {args : Array Value} {w : World} (e : x = y) (h : Calls Try.prog f args w fun r w' => r = .returned (.bool x) ∧ Below w.heap.size w w') : Calls Try.prog f args w fun r w' => r = .returned (.bool y) ∧ Below w.heap.size w w' := e ▸ h
set_option maxHeartbeats 3200000 in
theorem phost_nee (a b n m k l : Nat) (w : World) (ha : a < 4294967296) (hb : b < 4294967296) (hk : k ≤ l) (hl : l ≤ 32) (en : (n : Int) % 33 = (k : Int)) (em : (m : Int) % 33 = (l : Int)) (hkl : k = l) (hxz : cutTo a k = cutTo b k) :
    Calls Try.prog 7 #[.int .u32 (a : Int), .int .u32 (b : Int), .int .u8 (n : Int), .int .u8 (m : Int)] w fun e w' => e = .returned (.bool true) ∧ Below w.heap.size w w' := by
  have hk32 : k ≤ 32 := by omega
  have HH := hide (hostF a b k l ha hb hk hl)
  have E1 : Hid (decide (k = l) = true) := decide_eq_true hkl
  have i1 : ((k : Int) == (l : Int)) = true := by simp; omega
  have E3 : Hid (decide (cutTo a k = cutTo b k) = true) := decide_eq_true hxz
  rw [E1.out, E3.out] at HH
  clear E1 E3
  have HXZ := hide hxz
  clear hxz
  have d1 : ¬ (l : Int) < (k : Int) := by omega
  clear hkl
  go_enter Try.func7, Try.ntmps7
  go_wp2_with fail
  refine (make_in a k _ ha hk32).mono ?_
  rintro e w1 ⟨rfl, hb1⟩
  have HB1 := hide hb1
  clear hb1
  unfold pfx
  go_wp2_with fail
  refine (make_in a l _ ha hl).mono ?_
  rintro e w2 ⟨rfl, hb2⟩
  have c0 : w2.cell? ⟨w1.heap.size, 0, none⟩ = some (.int .u32 (cutTo a k : Int)) := by rw [hb2.cell (p := ⟨w1.heap.size, 0, none⟩) (by simp <;> omega)]; simp [go_sem]
  have c1 : w2.cell? ⟨w1.heap.size, 1, none⟩ = some (.int .i64 (k : Int)) := by rw [hb2.cell (p := ⟨w1.heap.size, 1, none⟩) (by simp <;> omega)]; simp [go_sem]
  have HB2 : Hid (Below w.heap.size w w2) := (HB1.out.alloc HB1.out.size _).trans (hb2.mono (by have := HB1.out.size; simp; omega))
  have hz : w1.heap.size < w2.heap.size := by have := hb2.size; simp at this; omega
  have HC0 := hide c0
  have HC1 := hide c1
  clear hb2 c0 c1
  unfold pfx
  go_wp2_with fail
  refine (make_in b k _ hb hk32).mono ?_
  rintro e w3 ⟨rfl, hb3⟩
  have hbx := boxes_of a b k l w1.heap.size w2 w3 hz HC0.out HC1.out hb3
  have HB3 : Hid (Below w.heap.size w w3) := (HB2.out.alloc HB2.out.size _).trans (hb3.mono (by have := HB2.out.size; simp; omega))
  have HB4 : Hid (Below w.heap.size w (w3.alloc (.cells #[.int .u32 (cutTo b k : Int), .int .i64 (k : Int)] 24))) := HB3.out.alloc HB3.out.size _
  have HBX := hide hbx
  clear hb3 hbx HC0 HC1 HB1 HB2 HB3
  unfold pfx
  go_wp2_with fail
  generalize w3.alloc (.cells #[.int .u32 (cutTo b k : Int), .int .i64 (k : Int)] 24) = w4 at *
  generalize cutTo a k = X at *
  generalize cutTo a l = Y at *
  generalize cutTo b k = Z at *
  generalize w1.heap.size = P at *
  generalize w2.heap.size = Q at *
  generalize w3.heap.size = R at *
  clear hz en em d1 ha hb
  have hxz := HXZ.out
  subst hxz
  have p0 : ∀ x : Later w4, x.w.cell? ⟨P, 0, none⟩ = some (.int .u32 (X : Int)) := fun x => (HBX.out.later x).p0
  have p1 : ∀ x : Later w4, x.w.cell? ⟨P, 1, none⟩ = some (.int .i64 (k : Int)) := fun x => (HBX.out.later x).p1
  have q0 : ∀ x : Later w4, x.w.cell? ⟨Q, 0, none⟩ = some (.int .u32 (Y : Int)) := fun x => (HBX.out.later x).q0
  have q1 : ∀ x : Later w4, x.w.cell? ⟨Q, 1, none⟩ = some (.int .i64 (l : Int)) := fun x => (HBX.out.later x).q1
  have r0 : ∀ x : Later w4, x.w.cell? ⟨R, 0, none⟩ = some (.int .u32 (X : Int)) := fun x => (HBX.out.later x).r0
  have r1 : ∀ x : Later w4, x.w.cell? ⟨R, 1, none⟩ = some (.int .i64 (k : Int)) := fun x => (HBX.out.later x).r1
  have K1 : ∀ x : Later w4, Calls Try.prog 13 #[.agg #[.int .u32 (X : Int), .int .i64 (k : Int)], .agg #[.int .u32 (Y : Int), .int .i64 (l : Int)]] x.w fun e w' => e = .returned (.bool true) ∧ ∃ y : Later w4, w' = y.w := fun x => calls_later x (cov_at HH.out.v1 (covers_any X Y k l _ HH.out.hx HH.out.hy))
  have K2 : ∀ x : Later w4, Calls Try.prog 13 #[.agg #[.int .u32 (Y : Int), .int .i64 (l : Int)], .agg #[.int .u32 (X : Int), .int .i64 (k : Int)]] x.w fun e w' => e = .returned (.bool true) ∧ ∃ y : Later w4, w' = y.w := fun x => calls_later x (cov_at HH.out.v2 (covers_any Y X l k _ HH.out.hy HH.out.hx))
  have K3 : ∀ x : Later w4, Calls Try.prog 13 #[.agg #[.int .u32 (X : Int), .int .i64 (k : Int)], .agg #[.int .u32 (X : Int), .int .i64 (k : Int)]] x.w fun e w' => e = .returned (.bool true) ∧ ∃ y : Later w4, w' = y.w := fun x => calls_later x (cov_at HH.out.v3 (covers_any X X k k _ HH.out.hx HH.out.hx))
  have HK1 := hide K1
  have HK2 := hide K2
  have HK3 := hide K3
  clear K1 K2 K3
  have hne := later_some w4
  refine region_later (by kernel_rfl) (by kernel_rfl) ?_
  repeat (go_big_quiet_step (first
    | (go_at_call 10; exact calls_later _ (answers_any _))
    | (go_at_call 13; with_reducible exact HK1.out _)
    | (go_at_call 13; with_reducible exact HK2.out _)
    | (go_at_call 13; with_reducible exact HK3.out _)))
  refine wpQuiet_nil ?_
  rintro _ ⟨xq, rfl⟩
  go_wp2
  go_ret
  exact ⟨rfl, HB4.out.trans (xq.h.mono HB4.out.size)⟩
set_option maxHeartbeats 3200000 in
theorem phost_ned (a b n m k l : Nat) (w : World) (ha : a < 4294967296) (hb : b < 4294967296) (hk : k ≤ l) (hl : l ≤ 32) (en : (n : Int) % 33 = (k : Int)) (em : (m : Int) % 33 = (l : Int)) (hkl : k = l) (hxz : ¬ cutTo a k = cutTo b k) :
    Calls Try.prog 7 #[.int .u32 (a : Int), .int .u32 (b : Int), .int .u8 (n : Int), .int .u8 (m : Int)] w fun e w' => e = .returned (.bool true) ∧ Below w.heap.size w w' := by
  have hk32 : k ≤ 32 := by omega
  have HH := hide (hostF a b k l ha hb hk hl)
  have E1 : Hid (decide (k = l) = true) := decide_eq_true hkl
  have i1 : ((k : Int) == (l : Int)) = true := by simp; omega
  have E3 : Hid (decide (cutTo a k = cutTo b k) = false) := decide_eq_false hxz
  rw [E1.out, E3.out] at HH
  clear E1 E3
  have HXZ := hide hxz
  clear hxz
  have d1 : ¬ (l : Int) < (k : Int) := by omega
  clear hkl
  go_enter Try.func7, Try.ntmps7
  go_wp2_with fail
  refine (make_in a k _ ha hk32).mono ?_
  rintro e w1 ⟨rfl, hb1⟩
  have HB1 := hide hb1
  clear hb1
  unfold pfx
  go_wp2_with fail
  refine (make_in a l _ ha hl).mono ?_
  rintro e w2 ⟨rfl, hb2⟩
  have c0 : w2.cell? ⟨w1.heap.size, 0, none⟩ = some (.int .u32 (cutTo a k : Int)) := by rw [hb2.cell (p := ⟨w1.heap.size, 0, none⟩) (by simp <;> omega)]; simp [go_sem]
  have c1 : w2.cell? ⟨w1.heap.size, 1, none⟩ = some (.int .i64 (k : Int)) := by rw [hb2.cell (p := ⟨w1.heap.size, 1, none⟩) (by simp <;> omega)]; simp [go_sem]
  have HB2 : Hid (Below w.heap.size w w2) := (HB1.out.alloc HB1.out.size _).trans (hb2.mono (by have := HB1.out.size; simp; omega))
  have hz : w1.heap.size < w2.heap.size := by have := hb2.size; simp at this; omega
  have HC0 := hide c0
  have HC1 := hide c1
  clear hb2 c0 c1
  unfold pfx
  go_wp2_with fail
  refine (make_in b k _ hb hk32).mono ?_
  rintro e w3 ⟨rfl, hb3⟩
  have hbx := boxes_of a b k l w1.heap.size w2 w3 hz HC0.out HC1.out hb3
  have HB3 : Hid (Below w.heap.size w w3) := (HB2.out.alloc HB2.out.size _).trans (hb3.mono (by have := HB2.out.size; simp; omega))
  have HB4 : Hid (Below w.heap.size w (w3.alloc (.cells #[.int .u32 (cutTo b k : Int), .int .i64 (k : Int)] 24))) := HB3.out.alloc HB3.out.size _
  have HBX := hide hbx
  clear hb3 hbx HC0 HC1 HB1 HB2 HB3
  unfold pfx
  go_wp2_with fail
  generalize w3.alloc (.cells #[.int .u32 (cutTo b k : Int), .int .i64 (k : Int)] 24) = w4 at *
  generalize cutTo a k = X at *
  generalize cutTo a l = Y at *
  generalize cutTo b k = Z at *
  generalize w1.heap.size = P at *
  generalize w2.heap.size = Q at *
  generalize w3.heap.size = R at *
  clear hz en em d1 ha hb
  have hxz : ¬ ((X : Nat) : Int) = ((Z : Nat) : Int) := by have := HXZ.out; omega
  have hxz2 : (((X : Nat) : Int) == ((Z : Nat) : Int)) = false := by simpa using hxz
  have p0 : ∀ x : Later w4, x.w.cell? ⟨P, 0, none⟩ = some (.int .u32 (X : Int)) := fun x => (HBX.out.later x).p0
  have p1 : ∀ x : Later w4, x.w.cell? ⟨P, 1, none⟩ = some (.int .i64 (k : Int)) := fun x => (HBX.out.later x).p1
  have q0 : ∀ x : Later w4, x.w.cell? ⟨Q, 0, none⟩ = some (.int .u32 (Y : Int)) := fun x => (HBX.out.later x).q0
  have q1 : ∀ x : Later w4, x.w.cell? ⟨Q, 1, none⟩ = some (.int .i64 (l : Int)) := fun x => (HBX.out.later x).q1
  have r0 : ∀ x : Later w4, x.w.cell? ⟨R, 0, none⟩ = some (.int .u32 (Z : Int)) := fun x => (HBX.out.later x).r0
  have r1 : ∀ x : Later w4, x.w.cell? ⟨R, 1, none⟩ = some (.int .i64 (k : Int)) := fun x => (HBX.out.later x).r1
  have K1 : ∀ x : Later w4, Calls Try.prog 13 #[.agg #[.int .u32 (X : Int), .int .i64 (k : Int)], .agg #[.int .u32 (Y : Int), .int .i64 (l : Int)]] x.w fun e w' => e = .returned (.bool true) ∧ ∃ y : Later w4, w' = y.w := fun x => calls_later x (cov_at HH.out.v1 (covers_any X Y k l _ HH.out.hx HH.out.hy))
  have K2 : ∀ x : Later w4, Calls Try.prog 13 #[.agg #[.int .u32 (Y : Int), .int .i64 (l : Int)], .agg #[.int .u32 (X : Int), .int .i64 (k : Int)]] x.w fun e w' => e = .returned (.bool true) ∧ ∃ y : Later w4, w' = y.w := fun x => calls_later x (cov_at HH.out.v2 (covers_any Y X l k _ HH.out.hy HH.out.hx))
  have K3 : ∀ x : Later w4, Calls Try.prog 13 #[.agg #[.int .u32 (X : Int), .int .i64 (k : Int)], .agg #[.int .u32 (Z : Int), .int .i64 (k : Int)]] x.w fun e w' => e = .returned (.bool false) ∧ ∃ y : Later w4, w' = y.w := fun x => calls_later x (cov_at HH.out.v3 (covers_any X Z k k _ HH.out.hx HH.out.hz))
  have HK1 := hide K1
  have HK2 := hide K2
  have HK3 := hide K3
  clear K1 K2 K3
  have hne := later_some w4
  refine region_later (by kernel_rfl) (by kernel_rfl) ?_
  repeat (go_big_quiet_step (first
    | (go_at_call 10; exact calls_later _ (answers_any _))
    | (go_at_call 13; with_reducible exact HK1.out _)
    | (go_at_call 13; with_reducible exact HK2.out _)
    | (go_at_call 13; with_reducible exact HK3.out _)))
  refine wpQuiet_nil ?_
  rintro _ ⟨xq, rfl⟩
  go_wp2
  go_ret
  exact ⟨rfl, HB4.out.trans (xq.h.mono HB4.out.size)⟩
set_option maxHeartbeats 3200000 in
theorem phost_nde (a b n m k l : Nat) (w : World) (ha : a < 4294967296) (hb : b < 4294967296) (hk : k ≤ l) (hl : l ≤ 32) (en : (n : Int) % 33 = (k : Int)) (em : (m : Int) % 33 = (l : Int)) (hkl : k < l) (hxz : cutTo a k = cutTo b k) :
    Calls Try.prog 7 #[.int .u32 (a : Int), .int .u32 (b : Int), .int .u8 (n : Int), .int .u8 (m : Int)] w fun e w' => e = .returned (.bool true) ∧ Below w.heap.size w w' := by
  have hk32 : k ≤ 32 := by omega
  have HH := hide (hostF a b k l ha hb hk hl)
  have E1 : Hid (decide (k = l) = false) := decide_eq_false (by omega)
  have i1 : ((k : Int) == (l : Int)) = false := by simp; omega
  have E3 : Hid (decide (cutTo a k = cutTo b k) = true) := decide_eq_true hxz
  rw [E1.out, E3.out] at HH
  clear E1 E3
  have HXZ := hide hxz
  clear hxz
  have d1 : ¬ (l : Int) < (k : Int) := by omega
  clear hkl
  go_enter Try.func7, Try.ntmps7
  go_wp2_with fail
  refine (make_in a k _ ha hk32).mono ?_
  rintro e w1 ⟨rfl, hb1⟩
  have HB1 := hide hb1
  clear hb1
  unfold pfx
  go_wp2_with fail
  refine (make_in a l _ ha hl).mono ?_
  rintro e w2 ⟨rfl, hb2⟩
  have c0 : w2.cell? ⟨w1.heap.size, 0, none⟩ = some (.int .u32 (cutTo a k : Int)) := by rw [hb2.cell (p := ⟨w1.heap.size, 0, none⟩) (by simp <;> omega)]; simp [go_sem]
  have c1 : w2.cell? ⟨w1.heap.size, 1, none⟩ = some (.int .i64 (k : Int)) := by rw [hb2.cell (p := ⟨w1.heap.size, 1, none⟩) (by simp <;> omega)]; simp [go_sem]
  have HB2 : Hid (Below w.heap.size w w2) := (HB1.out.alloc HB1.out.size _).trans (hb2.mono (by have := HB1.out.size; simp; omega))
  have hz : w1.heap.size < w2.heap.size := by have := hb2.size; simp at this; omega
  have HC0 := hide c0
  have HC1 := hide c1
  clear hb2 c0 c1
  unfold pfx
  go_wp2_with fail
  refine (make_in b k _ hb hk32).mono ?_
  rintro e w3 ⟨rfl, hb3⟩
  have hbx := boxes_of a b k l w1.heap.size w2 w3 hz HC0.out HC1.out hb3
  have HB3 : Hid (Below w.heap.size w w3) := (HB2.out.alloc HB2.out.size _).trans (hb3.mono (by have := HB2.out.size; simp; omega))
  have HB4 : Hid (Below w.heap.size w (w3.alloc (.cells #[.int .u32 (cutTo b k : Int), .int .i64 (k : Int)] 24))) := HB3.out.alloc HB3.out.size _
  have HBX := hide hbx
  clear hb3 hbx HC0 HC1 HB1 HB2 HB3
  unfold pfx
  go_wp2_with fail
  generalize w3.alloc (.cells #[.int .u32 (cutTo b k : Int), .int .i64 (k : Int)] 24) = w4 at *
  generalize cutTo a k = X at *
  generalize cutTo a l = Y at *
  generalize cutTo b k = Z at *
  generalize w1.heap.size = P at *
  generalize w2.heap.size = Q at *
  generalize w3.heap.size = R at *
  clear hz en em d1 ha hb
  have hxz := HXZ.out
  subst hxz
  have p0 : ∀ x : Later w4, x.w.cell? ⟨P, 0, none⟩ = some (.int .u32 (X : Int)) := fun x => (HBX.out.later x).p0
  have p1 : ∀ x : Later w4, x.w.cell? ⟨P, 1, none⟩ = some (.int .i64 (k : Int)) := fun x => (HBX.out.later x).p1
  have q0 : ∀ x : Later w4, x.w.cell? ⟨Q, 0, none⟩ = some (.int .u32 (Y : Int)) := fun x => (HBX.out.later x).q0
  have q1 : ∀ x : Later w4, x.w.cell? ⟨Q, 1, none⟩ = some (.int .i64 (l : Int)) := fun x => (HBX.out.later x).q1
  have r0 : ∀ x : Later w4, x.w.cell? ⟨R, 0, none⟩ = some (.int .u32 (X : Int)) := fun x => (HBX.out.later x).r0
  have r1 : ∀ x : Later w4, x.w.cell? ⟨R, 1, none⟩ = some (.int .i64 (k : Int)) := fun x => (HBX.out.later x).r1
  have K1 : ∀ x : Later w4, Calls Try.prog 13 #[.agg #[.int .u32 (X : Int), .int .i64 (k : Int)], .agg #[.int .u32 (Y : Int), .int .i64 (l : Int)]] x.w fun e w' => e = .returned (.bool true) ∧ ∃ y : Later w4, w' = y.w := fun x => calls_later x (cov_at HH.out.v1 (covers_any X Y k l _ HH.out.hx HH.out.hy))
  have K2 : ∀ x : Later w4, Calls Try.prog 13 #[.agg #[.int .u32 (Y : Int), .int .i64 (l : Int)], .agg #[.int .u32 (X : Int), .int .i64 (k : Int)]] x.w fun e w' => e = .returned (.bool false) ∧ ∃ y : Later w4, w' = y.w := fun x => calls_later x (cov_at HH.out.v2 (covers_any Y X l k _ HH.out.hy HH.out.hx))
  have K3 : ∀ x : Later w4, Calls Try.prog 13 #[.agg #[.int .u32 (X : Int), .int .i64 (k : Int)], .agg #[.int .u32 (X : Int), .int .i64 (k : Int)]] x.w fun e w' => e = .returned (.bool true) ∧ ∃ y : Later w4, w' = y.w := fun x => calls_later x (cov_at HH.out.v3 (covers_any X X k k _ HH.out.hx HH.out.hx))
  have HK1 := hide K1
  have HK2 := hide K2
  have HK3 := hide K3
  clear K1 K2 K3
  have hne := later_some w4
  refine region_later (by kernel_rfl) (by kernel_rfl) ?_
  repeat (go_big_quiet_step (first
    | (go_at_call 10; exact calls_later _ (answers_any _))
    | (go_at_call 13; with_reducible exact HK1.out _)
    | (go_at_call 13; with_reducible exact HK2.out _)
    | (go_at_call 13; with_reducible exact HK3.out _)))
  refine wpQuiet_nil ?_
  rintro _ ⟨xq, rfl⟩
  go_wp2
  go_ret
  exact ⟨rfl, HB4.out.trans (xq.h.mono HB4.out.size)⟩
set_option maxHeartbeats 3200000 in
theorem phost_ndd (a b n m k l : Nat) (w : World) (ha : a < 4294967296) (hb : b < 4294967296) (hk : k ≤ l) (hl : l ≤ 32) (en : (n : Int) % 33 = (k : Int)) (em : (m : Int) % 33 = (l : Int)) (hkl : k < l) (hxz : ¬ cutTo a k = cutTo b k) :
    Calls Try.prog 7 #[.int .u32 (a : Int), .int .u32 (b : Int), .int .u8 (n : Int), .int .u8 (m : Int)] w fun e w' => e = .returned (.bool true) ∧ Below w.heap.size w w' := by
  have hk32 : k ≤ 32 := by omega
  have HH := hide (hostF a b k l ha hb hk hl)
  have E1 : Hid (decide (k = l) = false) := decide_eq_false (by omega)
  have i1 : ((k : Int) == (l : Int)) = false := by simp; omega
  have E3 : Hid (decide (cutTo a k = cutTo b k) = false) := decide_eq_false hxz
  rw [E1.out, E3.out] at HH
  clear E1 E3
  have HXZ := hide hxz
  clear hxz
  have d1 : ¬ (l : Int) < (k : Int) := by omega
  clear hkl
  go_enter Try.func7, Try.ntmps7
  go_wp2_with fail
  refine (make_in a k _ ha hk32).mono ?_
  rintro e w1 ⟨rfl, hb1⟩
  have HB1 := hide hb1
  clear hb1
  unfold pfx
  go_wp2_with fail
  refine (make_in a l _ ha hl).mono ?_
  rintro e w2 ⟨rfl, hb2⟩
  have c0 : w2.cell? ⟨w1.heap.size, 0, none⟩ = some (.int .u32 (cutTo a k : Int)) := by rw [hb2.cell (p := ⟨w1.heap.size, 0, none⟩) (by simp <;> omega)]; simp [go_sem]
  have c1 : w2.cell? ⟨w1.heap.size, 1, none⟩ = some (.int .i64 (k : Int)) := by rw [hb2.cell (p := ⟨w1.heap.size, 1, none⟩) (by simp <;> omega)]; simp [go_sem]
  have HB2 : Hid (Below w.heap.size w w2) := (HB1.out.alloc HB1.out.size _).trans (hb2.mono (by have := HB1.out.size; simp; omega))
  have hz : w1.heap.size < w2.heap.size := by have := hb2.size; simp at this; omega
  have HC0 := hide c0
  have HC1 := hide c1
  clear hb2 c0 c1
  unfold pfx
  go_wp2_with fail
  refine (make_in b k _ hb hk32).mono ?_
  rintro e w3 ⟨rfl, hb3⟩
  have hbx := boxes_of a b k l w1.heap.size w2 w3 hz HC0.out HC1.out hb3
  have HB3 : Hid (Below w.heap.size w w3) := (HB2.out.alloc HB2.out.size _).trans (hb3.mono (by have := HB2.out.size; simp; omega))
  have HB4 : Hid (Below w.heap.size w (w3.alloc (.cells #[.int .u32 (cutTo b k : Int), .int .i64 (k : Int)] 24))) := HB3.out.alloc HB3.out.size _
  have HBX := hide hbx
  clear hb3 hbx HC0 HC1 HB1 HB2 HB3
  unfold pfx
  go_wp2_with fail
  generalize w3.alloc (.cells #[.int .u32 (cutTo b k : Int), .int .i64 (k : Int)] 24) = w4 at *
  generalize cutTo a k = X at *
  generalize cutTo a l = Y at *
  generalize cutTo b k = Z at *
  generalize w1.heap.size = P at *
  generalize w2.heap.size = Q at *
  generalize w3.heap.size = R at *
  clear hz en em d1 ha hb
  have hxz : ¬ ((X : Nat) : Int) = ((Z : Nat) : Int) := by have := HXZ.out; omega
  have hxz2 : (((X : Nat) : Int) == ((Z : Nat) : Int)) = false := by simpa using hxz
  have p0 : ∀ x : Later w4, x.w.cell? ⟨P, 0, none⟩ = some (.int .u32 (X : Int)) := fun x => (HBX.out.later x).p0
  have p1 : ∀ x : Later w4, x.w.cell? ⟨P, 1, none⟩ = some (.int .i64 (k : Int)) := fun x => (HBX.out.later x).p1
  have q0 : ∀ x : Later w4, x.w.cell? ⟨Q, 0, none⟩ = some (.int .u32 (Y : Int)) := fun x => (HBX.out.later x).q0
  have q1 : ∀ x : Later w4, x.w.cell? ⟨Q, 1, none⟩ = some (.int .i64 (l : Int)) := fun x => (HBX.out.later x).q1
  have r0 : ∀ x : Later w4, x.w.cell? ⟨R, 0, none⟩ = some (.int .u32 (Z : Int)) := fun x => (HBX.out.later x).r0
  have r1 : ∀ x : Later w4, x.w.cell? ⟨R, 1, none⟩ = some (.int .i64 (k : Int)) := fun x => (HBX.out.later x).r1
  have K1 : ∀ x : Later w4, Calls Try.prog 13 #[.agg #[.int .u32 (X : Int), .int .i64 (k : Int)], .agg #[.int .u32 (Y : Int), .int .i64 (l : Int)]] x.w fun e w' => e = .returned (.bool true) ∧ ∃ y : Later w4, w' = y.w := fun x => calls_later x (cov_at HH.out.v1 (covers_any X Y k l _ HH.out.hx HH.out.hy))
  have K2 : ∀ x : Later w4, Calls Try.prog 13 #[.agg #[.int .u32 (Y : Int), .int .i64 (l : Int)], .agg #[.int .u32 (X : Int), .int .i64 (k : Int)]] x.w fun e w' => e = .returned (.bool false) ∧ ∃ y : Later w4, w' = y.w := fun x => calls_later x (cov_at HH.out.v2 (covers_any Y X l k _ HH.out.hy HH.out.hx))
  have K3 : ∀ x : Later w4, Calls Try.prog 13 #[.agg #[.int .u32 (X : Int), .int .i64 (k : Int)], .agg #[.int .u32 (Z : Int), .int .i64 (k : Int)]] x.w fun e w' => e = .returned (.bool false) ∧ ∃ y : Later w4, w' = y.w := fun x => calls_later x (cov_at HH.out.v3 (covers_any X Z k k _ HH.out.hx HH.out.hz))
  have HK1 := hide K1
  have HK2 := hide K2
  have HK3 := hide K3
  clear K1 K2 K3
  have hne := later_some w4
  refine region_later (by kernel_rfl) (by kernel_rfl) ?_
  repeat (go_big_quiet_step (first
    | (go_at_call 10; exact calls_later _ (answers_any _))
    | (go_at_call 13; with_reducible exact HK1.out _)
    | (go_at_call 13; with_reducible exact HK2.out _)
    | (go_at_call 13; with_reducible exact HK3.out _)))
  refine wpQuiet_nil ?_
  rintro _ ⟨xq, rfl⟩
  go_wp2
  go_ret
  exact ⟨rfl, HB4.out.trans (xq.h.mono HB4.out.size)⟩
set_option maxHeartbeats 3200000 in
theorem phost_sde (a b n m k l : Nat) (w : World) (ha : a < 4294967296) (hb : b < 4294967296) (hk : k ≤ l) (hl : l ≤ 32) (en : (m : Int) % 33 = (k : Int)) (em : (n : Int) % 33 = (l : Int)) (hkl : k < l) (hxz : cutTo a k = cutTo b k) :
    Calls Try.prog 7 #[.int .u32 (a : Int), .int .u32 (b : Int), .int .u8 (n : Int), .int .u8 (m : Int)] w fun e w' => e = .returned (.bool true) ∧ Below w.heap.size w w' := by
  have hk32 : k ≤ 32 := by omega
  have HH := hide (hostF a b k l ha hb hk hl)
  have E1 : Hid (decide (k = l) = false) := decide_eq_false (by omega)
  have i1 : ((k : Int) == (l : Int)) = false := by simp; omega
  have E3 : Hid (decide (cutTo a k = cutTo b k) = true) := decide_eq_true hxz
  rw [E1.out, E3.out] at HH
  clear E1 E3
  have HXZ := hide hxz
  clear hxz
  have d1 : (k : Int) < (l : Int) := by omega
  clear hkl
  go_enter Try.func7, Try.ntmps7
  go_wp2_with fail
  refine (make_in a k _ ha hk32).mono ?_
  rintro e w1 ⟨rfl, hb1⟩
  have HB1 := hide hb1
  clear hb1
  unfold pfx
  go_wp2_with fail
  refine (make_in a l _ ha hl).mono ?_
  rintro e w2 ⟨rfl, hb2⟩
  have c0 : w2.cell? ⟨w1.heap.size, 0, none⟩ = some (.int .u32 (cutTo a k : Int)) := by rw [hb2.cell (p := ⟨w1.heap.size, 0, none⟩) (by simp <;> omega)]; simp [go_sem]
  have c1 : w2.cell? ⟨w1.heap.size, 1, none⟩ = some (.int .i64 (k : Int)) := by rw [hb2.cell (p := ⟨w1.heap.size, 1, none⟩) (by simp <;> omega)]; simp [go_sem]
  have HB2 : Hid (Below w.heap.size w w2) := (HB1.out.alloc HB1.out.size _).trans (hb2.mono (by have := HB1.out.size; simp; omega))
  have hz : w1.heap.size < w2.heap.size := by have := hb2.size; simp at this; omega
  have HC0 := hide c0
  have HC1 := hide c1
  clear hb2 c0 c1
  unfold pfx
  go_wp2_with fail
  refine (make_in b k _ hb hk32).mono ?_
  rintro e w3 ⟨rfl, hb3⟩
  have hbx := boxes_of a b k l w1.heap.size w2 w3 hz HC0.out HC1.out hb3
  have HB3 : Hid (Below w.heap.size w w3) := (HB2.out.alloc HB2.out.size _).trans (hb3.mono (by have := HB2.out.size; simp; omega))
  have HB4 : Hid (Below w.heap.size w (w3.alloc (.cells #[.int .u32 (cutTo b k : Int), .int .i64 (k : Int)] 24))) := HB3.out.alloc HB3.out.size _
  have HBX := hide hbx
  clear hb3 hbx HC0 HC1 HB1 HB2 HB3
  unfold pfx
  go_wp2_with fail
  generalize w3.alloc (.cells #[.int .u32 (cutTo b k : Int), .int .i64 (k : Int)] 24) = w4 at *
  generalize cutTo a k = X at *
  generalize cutTo a l = Y at *
  generalize cutTo b k = Z at *
  generalize w1.heap.size = P at *
  generalize w2.heap.size = Q at *
  generalize w3.heap.size = R at *
  clear hz en em d1 ha hb
  have hxz := HXZ.out
  subst hxz
  have p0 : ∀ x : Later w4, x.w.cell? ⟨P, 0, none⟩ = some (.int .u32 (X : Int)) := fun x => (HBX.out.later x).p0
  have p1 : ∀ x : Later w4, x.w.cell? ⟨P, 1, none⟩ = some (.int .i64 (k : Int)) := fun x => (HBX.out.later x).p1
  have q0 : ∀ x : Later w4, x.w.cell? ⟨Q, 0, none⟩ = some (.int .u32 (Y : Int)) := fun x => (HBX.out.later x).q0
  have q1 : ∀ x : Later w4, x.w.cell? ⟨Q, 1, none⟩ = some (.int .i64 (l : Int)) := fun x => (HBX.out.later x).q1
  have r0 : ∀ x : Later w4, x.w.cell? ⟨R, 0, none⟩ = some (.int .u32 (X : Int)) := fun x => (HBX.out.later x).r0
  have r1 : ∀ x : Later w4, x.w.cell? ⟨R, 1, none⟩ = some (.int .i64 (k : Int)) := fun x => (HBX.out.later x).r1
  have K1 : ∀ x : Later w4, Calls Try.prog 13 #[.agg #[.int .u32 (X : Int), .int .i64 (k : Int)], .agg #[.int .u32 (Y : Int), .int .i64 (l : Int)]] x.w fun e w' => e = .returned (.bool true) ∧ ∃ y : Later w4, w' = y.w := fun x => calls_later x (cov_at HH.out.v1 (covers_any X Y k l _ HH.out.hx HH.out.hy))
  have K2 : ∀ x : Later w4, Calls Try.prog 13 #[.agg #[.int .u32 (Y : Int), .int .i64 (l : Int)], .agg #[.int .u32 (X : Int), .int .i64 (k : Int)]] x.w fun e w' => e = .returned (.bool false) ∧ ∃ y : Later w4, w' = y.w := fun x => calls_later x (cov_at HH.out.v2 (covers_any Y X l k _ HH.out.hy HH.out.hx))
  have K3 : ∀ x : Later w4, Calls Try.prog 13 #[.agg #[.int .u32 (X : Int), .int .i64 (k : Int)], .agg #[.int .u32 (X : Int), .int .i64 (k : Int)]] x.w fun e w' => e = .returned (.bool true) ∧ ∃ y : Later w4, w' = y.w := fun x => calls_later x (cov_at HH.out.v3 (covers_any X X k k _ HH.out.hx HH.out.hx))
  have HK1 := hide K1
  have HK2 := hide K2
  have HK3 := hide K3
  clear K1 K2 K3
  have hne := later_some w4
  refine region_later (by kernel_rfl) (by kernel_rfl) ?_
  repeat (go_big_quiet_step (first
    | (go_at_call 10; exact calls_later _ (answers_any _))
    | (go_at_call 13; with_reducible exact HK1.out _)
    | (go_at_call 13; with_reducible exact HK2.out _)
    | (go_at_call 13; with_reducible exact HK3.out _)))
  refine wpQuiet_nil ?_
  rintro _ ⟨xq, rfl⟩
  go_wp2
  go_ret
  exact ⟨rfl, HB4.out.trans (xq.h.mono HB4.out.size)⟩
set_option maxHeartbeats 3200000 in
theorem phost_sdd (a b n m k l : Nat) (w : World) (ha : a < 4294967296) (hb : b < 4294967296) (hk : k ≤ l) (hl : l ≤ 32) (en : (m : Int) % 33 = (k : Int)) (em : (n : Int) % 33 = (l : Int)) (hkl : k < l) (hxz : ¬ cutTo a k = cutTo b k) :
    Calls Try.prog 7 #[.int .u32 (a : Int), .int .u32 (b : Int), .int .u8 (n : Int), .int .u8 (m : Int)] w fun e w' => e = .returned (.bool true) ∧ Below w.heap.size w w' := by
  have hk32 : k ≤ 32 := by omega
  have HH := hide (hostF a b k l ha hb hk hl)
  have E1 : Hid (decide (k = l) = false) := decide_eq_false (by omega)
  have i1 : ((k : Int) == (l : Int)) = false := by simp; omega
  have E3 : Hid (decide (cutTo a k = cutTo b k) = false) := decide_eq_false hxz
  rw [E1.out, E3.out] at HH
  clear E1 E3
  have HXZ := hide hxz
  clear hxz
  have d1 : (k : Int) < (l : Int) := by omega
  clear hkl
  go_enter Try.func7, Try.ntmps7
  go_wp2_with fail
  refine (make_in a k _ ha hk32).mono ?_
  rintro e w1 ⟨rfl, hb1⟩
  have HB1 := hide hb1
  clear hb1
  unfold pfx
  go_wp2_with fail
  refine (make_in a l _ ha hl).mono ?_
  rintro e w2 ⟨rfl, hb2⟩
  have c0 : w2.cell? ⟨w1.heap.size, 0, none⟩ = some (.int .u32 (cutTo a k : Int)) := by rw [hb2.cell (p := ⟨w1.heap.size, 0, none⟩) (by simp <;> omega)]; simp [go_sem]
  have c1 : w2.cell? ⟨w1.heap.size, 1, none⟩ = some (.int .i64 (k : Int)) := by rw [hb2.cell (p := ⟨w1.heap.size, 1, none⟩) (by simp <;> omega)]; simp [go_sem]
  have HB2 : Hid (Below w.heap.size w w2) := (HB1.out.alloc HB1.out.size _).trans (hb2.mono (by have := HB1.out.size; simp; omega))
  have hz : w1.heap.size < w2.heap.size := by have := hb2.size; simp at this; omega
  have HC0 := hide c0
  have HC1 := hide c1
  clear hb2 c0 c1
  unfold pfx
  go_wp2_with fail
  refine (make_in b k _ hb hk32).mono ?_
  rintro e w3 ⟨rfl, hb3⟩
  have hbx := boxes_of a b k l w1.heap.size w2 w3 hz HC0.out HC1.out hb3
  have HB3 : Hid (Below w.heap.size w w3) := (HB2.out.alloc HB2.out.size _).trans (hb3.mono (by have := HB2.out.size; simp; omega))
  have HB4 : Hid (Below w.heap.size w (w3.alloc (.cells #[.int .u32 (cutTo b k : Int), .int .i64 (k : Int)] 24))) := HB3.out.alloc HB3.out.size _
  have HBX := hide hbx
  clear hb3 hbx HC0 HC1 HB1 HB2 HB3
  unfold pfx
  go_wp2_with fail
  generalize w3.alloc (.cells #[.int .u32 (cutTo b k : Int), .int .i64 (k : Int)] 24) = w4 at *
  generalize cutTo a k = X at *
  generalize cutTo a l = Y at *
  generalize cutTo b k = Z at *
  generalize w1.heap.size = P at *
  generalize w2.heap.size = Q at *
  generalize w3.heap.size = R at *
  clear hz en em d1 ha hb
  have hxz : ¬ ((X : Nat) : Int) = ((Z : Nat) : Int) := by have := HXZ.out; omega
  have hxz2 : (((X : Nat) : Int) == ((Z : Nat) : Int)) = false := by simpa using hxz
  have p0 : ∀ x : Later w4, x.w.cell? ⟨P, 0, none⟩ = some (.int .u32 (X : Int)) := fun x => (HBX.out.later x).p0
  have p1 : ∀ x : Later w4, x.w.cell? ⟨P, 1, none⟩ = some (.int .i64 (k : Int)) := fun x => (HBX.out.later x).p1
  have q0 : ∀ x : Later w4, x.w.cell? ⟨Q, 0, none⟩ = some (.int .u32 (Y : Int)) := fun x => (HBX.out.later x).q0
  have q1 : ∀ x : Later w4, x.w.cell? ⟨Q, 1, none⟩ = some (.int .i64 (l : Int)) := fun x => (HBX.out.later x).q1
  have r0 : ∀ x : Later w4, x.w.cell? ⟨R, 0, none⟩ = some (.int .u32 (Z : Int)) := fun x => (HBX.out.later x).r0
  have r1 : ∀ x : Later w4, x.w.cell? ⟨R, 1, none⟩ = some (.int .i64 (k : Int)) := fun x => (HBX.out.later x).r1
  have K1 : ∀ x : Later w4, Calls Try.prog 13 #[.agg #[.int .u32 (X : Int), .int .i64 (k : Int)], .agg #[.int .u32 (Y : Int), .int .i64 (l : Int)]] x.w fun e w' => e = .returned (.bool true) ∧ ∃ y : Later w4, w' = y.w := fun x => calls_later x (cov_at HH.out.v1 (covers_any X Y k l _ HH.out.hx HH.out.hy))
  have K2 : ∀ x : Later w4, Calls Try.prog 13 #[.agg #[.int .u32 (Y : Int), .int .i64 (l : Int)], .agg #[.int .u32 (X : Int), .int .i64 (k : Int)]] x.w fun e w' => e = .returned (.bool false) ∧ ∃ y : Later w4, w' = y.w := fun x => calls_later x (cov_at HH.out.v2 (covers_any Y X l k _ HH.out.hy HH.out.hx))
  have K3 : ∀ x : Later w4, Calls Try.prog 13 #[.agg #[.int .u32 (X : Int), .int .i64 (k : Int)], .agg #[.int .u32 (Z : Int), .int .i64 (k : Int)]] x.w fun e w' => e = .returned (.bool false) ∧ ∃ y : Later w4, w' = y.w := fun x => calls_later x (cov_at HH.out.v3 (covers_any X Z k k _ HH.out.hx HH.out.hz))
  have HK1 := hide K1
  have HK2 := hide K2
  have HK3 := hide K3
  clear K1 K2 K3
  have hne := later_some w4
  refine region_later (by kernel_rfl) (by kernel_rfl) ?_
  repeat (go_big_quiet_step (first
    | (go_at_call 10; exact calls_later _ (answers_any _))
    | (go_at_call 13; with_reducible exact HK1.out _)
    | (go_at_call 13; with_reducible exact HK2.out _)
    | (go_at_call 13; with_reducible exact HK3.out _)))
  refine wpQuiet_nil ?_
  rintro _ ⟨xq, rfl⟩
  go_wp2
  go_ret
  exact ⟨rfl, HB4.out.trans (xq.h.mono HB4.out.size)⟩
theorem prefixHost_walk (a b n m : Int) (ha : (Lit.int .u32 a).wf = true) (hb : (Lit.int .u32 b).wf = true) (hn : (Lit.int .u8 n).wf = true) (hm : (Lit.int .u8 m).wf = true) (w : World) :
    Calls Try.prog 7 #[.int .u32 a, .int .u32 b, .int .u8 n, .int .u8 m] w fun e w' => e = .returned (.bool true) ∧ Below w.heap.size w w' := by
  have ba := bounds_u32 ha
  have bb := bounds_u32 hb
  have bn := bounds_u8 hn
  have bm := bounds_u8 hm
  obtain ⟨A, rfl⟩ := Int.eq_ofNat_of_zero_le ba.1
  obtain ⟨B, rfl⟩ := Int.eq_ofNat_of_zero_le bb.1
  obtain ⟨N, rfl⟩ := Int.eq_ofNat_of_zero_le bn.1
  obtain ⟨M, rfl⟩ := Int.eq_ofNat_of_zero_le bm.1
  clear ha hb hn hm
  by_cases h1 : M % 33 < N % 33
  · by_cases h3 : cutTo A (M % 33) = cutTo B (M % 33)
    · exact phost_sde A B N M (M % 33) (N % 33) w (by omega) (by omega) (by omega) (by omega) (by omega) (by omega) h1 h3
    · exact phost_sdd A B N M (M % 33) (N % 33) w (by omega) (by omega) (by omega) (by omega) (by omega) (by omega) h1 h3
  · by_cases h2 : N % 33 = M % 33
    · by_cases h3 : cutTo A (N % 33) = cutTo B (N % 33)
      · exact phost_nee A B N M (N % 33) (M % 33) w (by omega) (by omega) (by omega) (by omega) (by omega) (by omega) h2 h3
      · exact phost_ned A B N M (N % 33) (M % 33) w (by omega) (by omega) (by omega) (by omega) (by omega) (by omega) h2 h3
    · by_cases h3 : cutTo A (N % 33) = cutTo B (N % 33)
      · exact phost_nde A B N M (N % 33) (M % 33) w (by omega) (by omega) (by omega) (by omega) (by omega) (by omega) (by omega) h3
      · exact phost_ndd A B N M (N % 33) (M % 33) w (by omega) (by omega) (by omega) (by omega) (by omega) (by omega) (by omega) h3
end Go.Proofs.Ytdaagjlijhmghaa
