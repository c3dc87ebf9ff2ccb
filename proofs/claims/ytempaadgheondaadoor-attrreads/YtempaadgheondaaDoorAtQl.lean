/- The program's readInto: what is not known; flags; length. -/
import Derived.Test.YtempaadgheondaaDoorHBox
import Derived.Test.YtempaadgheondaaDoorThr
namespace Go.Proofs.YtempaadgheondaaDoor
open Go.RowKit
set_option maxRecDepth 100000

theorem refuse_to (fl ty s : Int) (a1 : Option Addr) (n1 c1 : Nat) (a2 : Option Addr) (n2 c2 : Nat) (w0 w : World) (hb : Below w0.heap.size w0 w) :
    Calls Tryd.prog 58 #[.agg #[.int .i64 fl, .int .i64 ty, .slice a1 n1 c1, .slice a2 n2 c2], .bool true, .int .i64 s] w fun e w' => e = .returned (.tuple #[]) ∧ Below w.heap.size w w' ∧ Below w0.heap.size w0 w' :=
  (refuse_yes fl ty s a1 n1 c1 a2 n2 c2 w).mono fun _ _ ⟨h1, h2⟩ => ⟨h1, h2, hb.trans (h2.mono hb.size)⟩
theorem refuse_not (fl ty s : Int) (a1 : Option Addr) (n1 c1 : Nat) (a2 : Option Addr) (c2 : Nat) (d : List Nat) (w0 w : World) (hl : d.length ≤ 100000) (h : BRd w0 a2 d) (hb : Below w0.heap.size w0 w) :
    Calls Tryd.prog 58 #[.agg #[.int .i64 fl, .int .i64 ty, .slice a1 n1 c1, .slice a2 d.length c2], .bool false, .int .i64 s] w fun e w' => Throws w0 w' s d e :=
  (refuse_no fl ty s a1 n1 c1 a2 c2 d w hl (h.below hb)).mono fun _ _ h9 => h9.from hb
theorem hasFlags_to (fl ty : Nat) (a1 : Option Addr) (n1 c1 : Nat) (a2 : Option Addr) (n2 c2 : Nat) (w0 w : World) (hS : Said w0) (hf : fl < 256) (h1 : 1 ≤ ty) (h8 : ty ≤ 8) (v : Bool) (hv : flagsOk fl ty = v) (hb : Below w0.heap.size w0 w) :
    Calls Tryd.prog 59 #[.agg #[.int .i64 (fl : Int), .int .i64 (ty : Int), .slice a1 n1 c1, .slice a2 n2 c2]] w fun e w' => e = .returned (.bool v) ∧ Below w.heap.size w w' ∧ Below w0.heap.size w0 w' :=
  (hasFlags_any fl ty a1 n1 c1 a2 n2 c2 w (hS.below hb) hf h1 h8).mono fun _ _ ⟨g1, g2⟩ => ⟨by rw [g1, hv], g2, hb.trans (g2.mono hb.size)⟩
theorem fits_to (k n : Nat) (w0 w : World) (hS : Said w0) (h1 : 1 ≤ k) (h8 : k ≤ 8) (hn : n ≤ 1000000) (v : Bool) (hv : fitsB k n = v) (hb : Below w0.heap.size w0 w) : Calls Tryd.prog 60 #[.int .i64 (k : Int), .int .i64 (n : Int)] w fun e w' => e = .returned (.bool v) ∧ w' = w :=
  (fits_any k n w (hS.below hb) h1 h8 hn).mono fun _ _ ⟨g1, g2⟩ => ⟨by rw [g1, hv], g2⟩
set_option maxHeartbeats 800000 in
theorem into_unk_ret (fl ty : Nat) (a1 : Option Addr) (n1 c1 : Nat) (a2 : Option Addr) (n2 c2 : Nat) (X : Nat) (w : World) (R : World → Prop) (hty : ty = 0 ∨ 8 < ty)
    (K : ∀ w1, Below w.heap.size w w1 → Calls Tryd.prog 57 #[partV (fl : Int) (ty : Int) a1 n1 c1 a2 n2 c2, .pointer (some ⟨X, 0, none⟩)] w1 fun e w' => e = .returned (.tuple #[]) ∧ R w') :
    Calls Tryd.prog 38 #[partV (fl : Int) (ty : Int) a1 n1 c1 a2 n2 c2, .pointer (some ⟨X, 0, none⟩)] w fun e w' => e = .returned (.tuple #[]) ∧ R w' := by
  have HK := hide K
  clear K
  unfold partV at HK ⊢
  rcases hty with rfl | h
  · go_enter Tryd.func38, Tryd.ntmps38
    go_wp2_with fail
    refine (HK.out _ ((Below.refl _ _).alloc (Nat.le_refl _) _)).mono ?_
    rintro e w1 ⟨rfl, hr⟩
    have HR := hide hr
    clear hr
    go_wp2
    refine bodyPost_ret (results_none rfl _ _ _) rfl ?_
    exact ⟨rfl, HR.out⟩
  · have d1 : decide ((ty : Int) < 1) = false := decide_eq_false (by omega)
    have d8 : (8 : Int) < (ty : Int) := by omega
    go_enter Tryd.func38, Tryd.ntmps38
    go_wp2_with fail
    refine (HK.out _ ((Below.refl _ _).alloc (Nat.le_refl _) _)).mono ?_
    rintro e w1 ⟨rfl, hr⟩
    have HR := hide hr
    clear hr
    go_wp2
    refine bodyPost_ret (results_none rfl _ _ _) rfl ?_
    exact ⟨rfl, HR.out⟩
set_option maxHeartbeats 800000 in
theorem into_unk_throw (fl ty : Nat) (a1 : Option Addr) (n1 c1 : Nat) (a2 : Option Addr) (n2 c2 : Nat) (X : Nat) (w : World) (s : Int) (d : List Nat) (hty : ty = 0 ∨ 8 < ty)
    (K : ∀ w1, Below w.heap.size w w1 → Calls Tryd.prog 57 #[partV (fl : Int) (ty : Int) a1 n1 c1 a2 n2 c2, .pointer (some ⟨X, 0, none⟩)] w1 fun e w' => Throws w1 w' s d e) :
    Calls Tryd.prog 38 #[partV (fl : Int) (ty : Int) a1 n1 c1 a2 n2 c2, .pointer (some ⟨X, 0, none⟩)] w fun e w' => Throws w w' s d e := by
  have HK : Hid (∀ w1, Below w.heap.size w w1 → Calls Tryd.prog 57 #[partV (fl : Int) (ty : Int) a1 n1 c1 a2 n2 c2, .pointer (some ⟨X, 0, none⟩)] w1 fun e w' => Throws w w' s d e) := fun w1 hb => (K w1 hb).mono fun _ _ h9 => h9.from hb
  clear K
  unfold partV at HK ⊢
  unfold Throws at HK ⊢
  unfold thrown at HK ⊢
  rcases hty with rfl | h
  · go_enter Tryd.func38, Tryd.ntmps38
    go_wp2_with fail
    refine (HK.out _ ((Below.refl _ _).alloc (Nat.le_refl _) _)).mono ?_
    rintro e w1 ⟨a9, c9, rfl, ho, hb⟩
    go_wp2
    exact ⟨rfl, a9, c9, rfl, ho, hb⟩
  · have d1 : decide ((ty : Int) < 1) = false := decide_eq_false (by omega)
    have d8 : (8 : Int) < (ty : Int) := by omega
    go_enter Tryd.func38, Tryd.ntmps38
    go_wp2_with fail
    refine (HK.out _ ((Below.refl _ _).alloc (Nat.le_refl _) _)).mono ?_
    rintro e w1 ⟨a9, c9, rfl, ho, hb⟩
    go_wp2
    exact ⟨rfl, a9, c9, rfl, ho, hb⟩
theorem later_up {w0 w : World} (hb : Below w0.heap.size w0 w) (x : Later w) : Below w0.heap.size w0 x.w := hb.trans (x.h.mono hb.size)
set_option maxHeartbeats 1600000 in
theorem into_flags (fl ty : Nat) (a1 : Option Addr) (n1 c1 : Nat) (a2 : Option Addr) (c2 : Nat) (all : List Nat) (X : Nat) (w : World) (hS : Said w) (hf : fl < 256) (h1 : 1 ≤ ty) (h8 : ty ≤ 8) (hv : flagsOk fl ty = false) (hl : all.length ≤ 100000) (h : BRd w a2 all) :
    Calls Tryd.prog 38 #[partV (fl : Int) (ty : Int) a1 n1 c1 a2 all.length c2, .pointer (some ⟨X, 0, none⟩)] w fun e w' => Throws w w' 4 all e := by
  have hba : Below w.heap.size w (w.alloc (.cells #[.int .i64 (fl : Int), .int .i64 (ty : Int), .slice a1 n1 c1, .slice a2 all.length c2] 63)) := (Below.refl _ _).alloc (Nat.le_refl _) _
  have KH : Hid (∀ x : Later (w.alloc (.cells #[.int .i64 (fl : Int), .int .i64 (ty : Int), .slice a1 n1 c1, .slice a2 all.length c2] 63)), Calls Tryd.prog 59 #[.agg #[.int .i64 (fl : Int), .int .i64 (ty : Int), .slice a1 n1 c1, .slice a2 all.length c2]] x.w fun e w' => e = .returned (.bool false) ∧ ∃ y : Later (w.alloc (.cells #[.int .i64 (fl : Int), .int .i64 (ty : Int), .slice a1 n1 c1, .slice a2 all.length c2] 63)), w' = y.w) := fun x => calls_later x ((hasFlags_to fl ty a1 n1 c1 a2 all.length c2 w x.w hS hf h1 h8 false hv (later_up hba x)).mono fun _ _ h9 => ⟨h9.1, h9.2.1⟩)
  have KR : Hid (∀ x : Later (w.alloc (.cells #[.int .i64 (fl : Int), .int .i64 (ty : Int), .slice a1 n1 c1, .slice a2 all.length c2] 63)), Calls Tryd.prog 58 #[.agg #[.int .i64 (fl : Int), .int .i64 (ty : Int), .slice a1 n1 c1, .slice a2 all.length c2], .bool false, .int .i64 4] x.w fun e w' => Throws w w' 4 all e) := fun x => refuse_not _ _ 4 a1 n1 c1 a2 c2 all w x.w hl h (later_up hba x)
  have d1 : decide ((ty : Int) < 1) = false := decide_eq_false (by omega)
  have d8 : decide ((8 : Int) < (ty : Int)) = false := decide_eq_false (by omega)
  clear hS h hv hba
  unfold partV
  unfold Throws at KR ⊢
  unfold thrown at KR ⊢
  generalize all.length = n2 at *
  have x0 : ∀ x : Later (w.alloc (.cells #[.int .i64 (fl : Int), .int .i64 (ty : Int), .slice a1 n1 c1, .slice a2 n2 c2] 63)), x.w.cell? ⟨w.heap.size, 0, none⟩ = some (.int .i64 (fl : Int)) := fun x => x.cell (by simp [go_sem])
  have x1 : ∀ x : Later (w.alloc (.cells #[.int .i64 (fl : Int), .int .i64 (ty : Int), .slice a1 n1 c1, .slice a2 n2 c2] 63)), x.w.cell? ⟨w.heap.size, 1, none⟩ = some (.int .i64 (ty : Int)) := fun x => x.cell (by simp [go_sem])
  have x2 : ∀ x : Later (w.alloc (.cells #[.int .i64 (fl : Int), .int .i64 (ty : Int), .slice a1 n1 c1, .slice a2 n2 c2] 63)), x.w.cell? ⟨w.heap.size, 2, none⟩ = some (.slice a1 n1 c1) := fun x => x.cell (by simp [go_sem])
  have x3 : ∀ x : Later (w.alloc (.cells #[.int .i64 (fl : Int), .int .i64 (ty : Int), .slice a1 n1 c1, .slice a2 n2 c2] 63)), x.w.cell? ⟨w.heap.size, 3, none⟩ = some (.slice a2 n2 c2) := fun x => x.cell (by simp [go_sem])
  have hne := later_some (w.alloc (.cells #[.int .i64 (fl : Int), .int .i64 (ty : Int), .slice a1 n1 c1, .slice a2 n2 c2] 63))
  go_enter Tryd.func38, Tryd.ntmps38
  go_wp2_with fail
  refine region_ends (by kernel_rfl) (by kernel_rfl) (fun _ _ d _ _ h => by cases d <;> exact h) rfl ?_
  simp only [List.dropLast]
  repeat (go_big_quiet_step (first | (go_at_call 59; with_reducible exact KH.out _)))
  refine wpQuiet_nil ?_
  refine ⟨rfl, fun x => ?_⟩
  go_simp
  refine (KR.out x).mono ?_
  rintro e w3 ⟨a9, c9, rfl, ho, hb3⟩
  exact ⟨rfl, a9, c9, rfl, ho, hb3⟩
theorem kh_to (fl ty : Nat) (a1 : Option Addr) (n1 c1 : Nat) (a2 : Option Addr) (n2 c2 : Nat) (w : World) (hS : Said w) (hf : fl < 256) (h1 : 1 ≤ ty) (h8 : ty ≤ 8) (v : Bool) (hv : flagsOk fl ty = v) (w1 : World) (hb : Hid (Below w.heap.size w w1)) (x : Later w1) :
    Calls Tryd.prog 59 #[.agg #[.int .i64 (fl : Int), .int .i64 (ty : Int), .slice a1 n1 c1, .slice a2 n2 c2]] x.w fun e w' => e = .returned (.bool v) ∧ ∃ y : Later w1, w' = y.w :=
  calls_later x ((hasFlags_to fl ty a1 n1 c1 a2 n2 c2 w x.w hS hf h1 h8 v hv (later_up hb.out x)).mono fun _ _ h9 => ⟨h9.1, h9.2.1⟩)
theorem kf_to (k n : Nat) (w : World) (hS : Said w) (h1 : 1 ≤ k) (h8 : k ≤ 8) (hn : n ≤ 1000000) (v : Bool) (hv : fitsB k n = v) (w1 : World) (hb : Hid (Below w.heap.size w w1)) (x : Later w1) :
    Calls Tryd.prog 60 #[.int .i64 (k : Int), .int .i64 (n : Int)] x.w fun e w' => e = .returned (.bool v) ∧ ∃ y : Later w1, w' = y.w :=
  calls_same x (fits_to k n w x.w hS h1 h8 hn v hv (later_up hb.out x))
theorem kr_to (fl ty s : Int) (a1 : Option Addr) (n1 c1 : Nat) (a2 : Option Addr) (n2 c2 : Nat) (w1 : World) (x : Later w1) :
    Calls Tryd.prog 58 #[.agg #[.int .i64 fl, .int .i64 ty, .slice a1 n1 c1, .slice a2 n2 c2], .bool true, .int .i64 s] x.w fun e w' => e = .returned (.tuple #[]) ∧ ∃ y : Later w1, w' = y.w :=
  calls_later x (refuse_yes fl ty s a1 n1 c1 a2 n2 c2 x.w)
set_option maxHeartbeats 3200000 in
theorem into_size (fl ty : Nat) (a1 : Option Addr) (n1 c1 : Nat) (a2 : Option Addr) (c2 : Nat) (all : List Nat) (X : Nat) (w : World) (hS : Said w) (hf : fl < 256) (h1 : 1 ≤ ty) (h8 : ty ≤ 8) (hv : flagsOk fl ty = true) (hs : fitsB ty n1 = false) (hn : n1 ≤ 100000) (hl : all.length ≤ 100000) (h : BRd w a2 all) :
    Calls Tryd.prog 38 #[partV (fl : Int) (ty : Int) a1 n1 c1 a2 all.length c2, .pointer (some ⟨X, 0, none⟩)] w fun e w' => Throws w w' 5 all e := by
  have KR : Hid (∀ (w1 : World) (_ : Hid (Below w.heap.size w w1)) (x : Later w1), Calls Tryd.prog 58 #[.agg #[.int .i64 (fl : Int), .int .i64 (ty : Int), .slice a1 n1 c1, .slice a2 all.length c2], .bool false, .int .i64 5] x.w fun e w' => Throws w w' 5 all e) := fun w1 hb x => refuse_not _ _ 5 a1 n1 c1 a2 c2 all w x.w hl h (later_up hb.out x)
  have d1 : decide ((ty : Int) < 1) = false := decide_eq_false (by omega)
  have d8 : decide ((8 : Int) < (ty : Int)) = false := decide_eq_false (by omega)
  unfold partV
  unfold Throws at KR ⊢
  unfold thrown at KR ⊢
  generalize all.length = n2 at *
  have HBA : Hid (Below w.heap.size w (w.alloc (.cells #[.int .i64 (fl : Int), .int .i64 (ty : Int), .slice a1 n1 c1, .slice a2 n2 c2] 63))) := (Below.refl _ _).alloc (Nat.le_refl _) _
  have KH : Hid (∀ (w1 : World) (_ : Hid (Below w.heap.size w w1)) (x : Later w1), Calls Tryd.prog 59 #[.agg #[.int .i64 (fl : Int), .int .i64 (ty : Int), .slice a1 n1 c1, .slice a2 n2 c2]] x.w fun e w' => e = .returned (.bool true) ∧ ∃ y : Later w1, w' = y.w) := fun w1 hb x => kh_to fl ty a1 n1 c1 a2 n2 c2 w hS hf (by omega) (by omega) true hv w1 hb x
  have KF : Hid (∀ (w1 : World) (_ : Hid (Below w.heap.size w w1)) (x : Later w1), Calls Tryd.prog 60 #[.int .i64 (ty : Int), .int .i64 (n1 : Int)] x.w fun e w' => e = .returned (.bool false) ∧ ∃ y : Later w1, w' = y.w) := fun w1 hb x => kf_to ty n1 w hS (by omega) (by omega) (by omega) false hs w1 hb x
  have x0 : ∀ x : Later (w.alloc (.cells #[.int .i64 (fl : Int), .int .i64 (ty : Int), .slice a1 n1 c1, .slice a2 n2 c2] 63)), x.w.cell? ⟨w.heap.size, 0, none⟩ = some (.int .i64 (fl : Int)) := fun x => x.cell (by simp [go_sem])
  have x1 : ∀ x : Later (w.alloc (.cells #[.int .i64 (fl : Int), .int .i64 (ty : Int), .slice a1 n1 c1, .slice a2 n2 c2] 63)), x.w.cell? ⟨w.heap.size, 1, none⟩ = some (.int .i64 (ty : Int)) := fun x => x.cell (by simp [go_sem])
  have x2 : ∀ x : Later (w.alloc (.cells #[.int .i64 (fl : Int), .int .i64 (ty : Int), .slice a1 n1 c1, .slice a2 n2 c2] 63)), x.w.cell? ⟨w.heap.size, 2, none⟩ = some (.slice a1 n1 c1) := fun x => x.cell (by simp [go_sem])
  have x3 : ∀ x : Later (w.alloc (.cells #[.int .i64 (fl : Int), .int .i64 (ty : Int), .slice a1 n1 c1, .slice a2 n2 c2] 63)), x.w.cell? ⟨w.heap.size, 3, none⟩ = some (.slice a2 n2 c2) := fun x => x.cell (by simp [go_sem])
  have hne := later_some (w.alloc (.cells #[.int .i64 (fl : Int), .int .i64 (ty : Int), .slice a1 n1 c1, .slice a2 n2 c2] 63))
  clear hS h hv hs
  go_enter Tryd.func38, Tryd.ntmps38
  go_wp2_with fail
  refine region_later (by kernel_rfl) (by kernel_rfl) ?_
  repeat (go_big_quiet_step (first | (go_at_call 59; with_reducible exact KH.out _ HBA _) | (go_at_call 58; with_reducible exact kr_to _ _ _ _ _ _ _ _ _ _ _)))
  refine wpQuiet_nil ?_
  rintro _ ⟨xq, rfl⟩
  have HB3 : Hid (Below w.heap.size w xq.w) := later_up HBA.out xq
  have p0 := x0 xq
  have p1 := x1 xq
  have p2 := x2 xq
  have p3 := x3 xq
  clear x0 x1 x2 x3 hne
  generalize xq.w = w3 at *
  have y0 : ∀ x : Later w3, x.w.cell? ⟨w.heap.size, 0, none⟩ = some (.int .i64 (fl : Int)) := fun x => x.cell p0
  have y1 : ∀ x : Later w3, x.w.cell? ⟨w.heap.size, 1, none⟩ = some (.int .i64 (ty : Int)) := fun x => x.cell p1
  have y2 : ∀ x : Later w3, x.w.cell? ⟨w.heap.size, 2, none⟩ = some (.slice a1 n1 c1) := fun x => x.cell p2
  have y3 : ∀ x : Later w3, x.w.cell? ⟨w.heap.size, 3, none⟩ = some (.slice a2 n2 c2) := fun x => x.cell p3
  have hne := later_some w3
  go_wp2_with fail
  refine region_ends (by kernel_rfl) (by kernel_rfl) (fun _ _ d _ _ h => by cases d <;> exact h) rfl ?_
  simp only [List.dropLast]
  repeat (go_big_quiet_step (first | (go_at_call 60; with_reducible exact KF.out _ HB3 _)))
  refine wpQuiet_nil ?_
  refine ⟨rfl, fun x => ?_⟩
  go_simp
  refine (KR.out _ HB3 x).mono ?_
  rintro e w5 ⟨a9, c9, rfl, ho, hb5⟩
  exact ⟨rfl, a9, c9, rfl, ho, hb5⟩
theorem keeps_later {X B : Nat} {w w1 : World} (h : Keeps (NotBox X B) w w1) (x : Later w1) : Keeps (NotBox X B) w x.w :=
  h.trans (Keeps.of_below x.h (NotBox X B)) (fun _ _ h9 => h9)
/-- What is refused when the box has been written. -/
theorem refuse_box (fl : Nat) (ty s : Int) (a1 : Option Addr) (n1 c1 : Nat) (a2 : Option Addr) (n2 c2 : Nat) (d : List Nat) (X B : Nat) {a : At} (w w1 : World) (x : Later w1) (hn : d.length = n2) (hl : n2 ≤ 100000) (h : BRd w a2 d) (hk : Keeps (NotBox X B) w w1) (hx : Box w1 X B a) (hX : ∀ ad, a2 = some ad → 0 < n2 → ad.block < X) :
    Calls Tryd.prog 58 #[.agg #[.int .i64 (fl : Int), .int .i64 ty, .slice a1 n1 c1, .slice a2 n2 c2], .bool false, .int .i64 s] x.w fun e w' => ThrowsB X B w w' s d e := by
  subst hn
  have h1 : BRd x.w a2 d := ⟨h.1.keeps (keeps_later hk x) (fun ad ha hp h9 => by
    have := hX ad ha hp
    have := hx.lt
    rcases h9 with h9 | h9 <;> omega), h.2⟩
  refine (refuse_no (fl : Int) ty s a1 n1 c1 a2 c2 d x.w hl h1).mono ?_
  rintro e w' ⟨a9, c9, he, ho, hb⟩
  have hsz := (keeps_later hk x).size
  have hxx := hx.later x.h
  exact ⟨a9, c9, he, own_base ho hsz, (keeps_later hk x).trans (Keeps.of_below hb (NotBox X B)) (fun _ _ h9 => h9), a, hxx.later hb⟩
end Go.Proofs.YtempaadgheondaaDoor
