/- The table's Of and For. -/
import Derived.Test.YtjlmkaeepeamkaaAjS
namespace Go.Proofs.Ytjlmkaeepeamkaa
open Go.RowKit
set_option maxRecDepth 100000

theorem cmpI_neg (x y : Int) : cmpI x y < 0 ↔ x < y := by unfold cmpI; split <;> (try split) <;> omega
theorem cmpI_zero (x y : Int) : cmpI x y = 0 ↔ x = y := by unfold cmpI; split <;> (try split) <;> omega
theorem cmpP_neg (A B : Nat) (L M : Int) : cmpP A L B M < 0 ↔ A < B ∨ (A = B ∧ L < M) := by
  unfold cmpP
  have h1 := cmpI_neg A B
  have h2 := cmpI_zero A B
  have h3 := cmpI_neg L M
  split <;> omega
def cfP (x y : Rt) : Int := cmpP x.A x.L y.A y.L
def cfW (x y : Rt) : Int := cmpI x.peer y.peer
theorem ltP (x y : Rt) : ltOf cfP x y = true ↔ x.A < y.A ∨ (x.A = y.A ∧ x.L < y.L) := by unfold ltOf cfP; rw [decide_eq_true_eq]; exact cmpP_neg _ _ _ _
theorem ltW (x y : Rt) : ltOf cfW x y = true ↔ x.peer < y.peer := by unfold ltOf cfW; rw [decide_eq_true_eq]; exact cmpI_neg _ _
theorem not_true {z : Bool} : z = false ↔ ¬ z = true := by cases z <;> simp
theorem swoP : Sort.SWO (ltOf cfP) where
  irrefl x := by rw [not_true, ltP]; omega
  trans x y z h1 h2 := by rw [ltP] at *; omega
  ntrans x y z h1 h2 := by rw [not_true, ltP] at *; omega
theorem swoW : Sort.SWO (ltOf cfW) where
  irrefl x := by rw [not_true, ltW]; omega
  trans x y z h1 h2 := by rw [ltW] at *; omega
  ntrans x y z h1 h2 := by rw [not_true, ltW] at *; omega
theorem rises_unlike {m : List Rt} (h : RisesR m) : m.Pairwise (fun x y => sameK x y = false) := h.imp fun h => ahead_unlike h
theorem sameK_symm (x y : Rt) : sameK x y = sameK y x := by
  cases h : sameK x y with
  | true => symm; rw [sameK_iff] at h ⊢; omega
  | false => symm; rw [not_true, sameK_iff] at h ⊢; omega
theorem perm_unlike {l m : List Rt} (hp : l.Perm m) (h : RisesR m) : l.Pairwise (fun x y => sameK x y = false) :=
  (hp.pairwise_iff (fun {x y} h => by rw [sameK_symm]; exact h)).2 (rises_unlike h)
/-- One peer's routes, by prefix. -/
theorem sorted_of {l m : List Rt} {peer : Int} (hp : l.Perm m) (h : RisesR m) (hm : ∀ x ∈ m, x.peer = peer) (hs : l.Pairwise fun x y => ltOf cfP y x = false) : l = m := by
  refine rises_eq l m ?_ h fun x => hp.mem_iff
  refine List.Pairwise.imp_of_mem ?_ (hs.and (perm_unlike hp h))
  intro x y hx hy ⟨h1, h2⟩
  have e1 := hm x (hp.mem_iff.1 hx)
  have e2 := hm y (hp.mem_iff.1 hy)
  rw [not_true, ltP] at h1
  rw [not_true, sameK_iff] at h2
  rw [ahead_iff]
  omega
/-- One prefix's routes, by peer. -/
theorem sorted_for {l m : List Rt} {A : Nat} {L : Int} (hp : l.Perm m) (h : RisesR m) (hm : ∀ x ∈ m, x.A = A ∧ x.L = L) (hs : l.Pairwise fun x y => ltOf cfW y x = false) : l = m := by
  refine rises_eq l m ?_ h fun x => hp.mem_iff
  refine List.Pairwise.imp_of_mem ?_ (hs.and (perm_unlike hp h))
  intro x y hx hy ⟨h1, h2⟩
  have e1 := hm x (hp.mem_iff.1 hx)
  have e2 := hm y (hp.mem_iff.1 hy)
  rw [not_true, ltW] at h1
  rw [not_true, sameK_iff] at h2
  rw [ahead_iff]
  omega
set_option maxHeartbeats 800000 in
theorem of1_any (A : Nat) (L p peer : Int) (X : Nat) (w : World) (hX : w.cell? ⟨X, 0, none⟩ = some (.int .i64 peer)) : Calls Try.prog 26 #[kV A L p, .pointer (some ⟨X, 0, none⟩)] w fun e w' => e = .returned (.bool (decide (p = peer))) ∧ Below w.heap.size w w' := by
  unfold kV
  have zx := World.block_lt_of_cell? w _ hX
  simp only at zx
  have HD : Hid ((p == peer) = decide (p = peer)) := by show _ = _; by_cases h : p = peer <;> simp [h]
  go_enter Try.func26, Try.ntmps26
  go_wp2
  go_ret
  exact ⟨ret_bool HD.out, (Below.refl _ _).alloc (Nat.le_refl _) _⟩
set_option maxHeartbeats 800000 in
theorem for1_any (A : Nat) (L p : Int) (A0 : Nat) (L0 : Int) (X : Nat) (w : World) (hX : w.cell? ⟨X, 0, none⟩ = some (.int .u32 (A0 : Int))) (hY : w.cell? ⟨X, 1, none⟩ = some (.int .i64 L0)) : Calls Try.prog 29 #[kV A L p, .pointer (some ⟨X, 0, none⟩)] w fun e w' => e = .returned (.bool (decide (A = A0) && decide (L = L0))) ∧ Below w.heap.size w w' := by
  unfold kV
  have zx := World.block_lt_of_cell? w _ hX
  simp only at zx
  by_cases h : A = A0
  · by_cases g : L = L0
    · subst h g
      have HD : Hid (true = (decide (A = A) && decide (L = L))) := by show _ = _; simp
      go_enter Try.func29, Try.ntmps29
      go_wp2
      go_ret
      exact ⟨ret_bool HD.out, (Below.refl _ _).alloc (Nat.le_refl _) _⟩
    · subst h
      have HD : Hid (false = (decide (A = A) && decide (L = L0))) := by show _ = _; simp [g]
      have f1 : (L == L0) = false := by simpa using g
      clear g
      go_enter Try.func29, Try.ntmps29
      go_wp2
      go_ret
      exact ⟨ret_bool HD.out, (Below.refl _ _).alloc (Nat.le_refl _) _⟩
  · have HD : Hid (false = (decide (A = A0) && decide (L = L0))) := by show _ = _; simp [h]
    have f1 : (A == A0) = false := by simpa using h
    have f2 : ((A : Int) == (A0 : Int)) = false := by simp; omega
    clear h
    go_enter Try.func29, Try.ntmps29
    go_wp2
    go_ret
    exact ⟨ret_bool HD.out, (Below.refl _ _).alloc (Nat.le_refl _) _⟩
theorem enters_of1 : ∀ args w, (callFunc 26 args).run Try.prog w = .ok (.enter 26 args) w := enters_of Try.func26 (by kernel_rfl) rfl
theorem enters_for1 : ∀ args w, (callFunc 29 args).run Try.prog w = .ok (.enter 29 args) w := enters_of Try.func29 (by kernel_rfl) rfl
theorem enters_pfx : ∀ args w, (callFunc 28 args).run Try.prog w = .ok (.enter 28 args) w := enters_of Try.func28 (by kernel_rfl) rfl
theorem enters_peer : ∀ args w, (callFunc 30 args).run Try.prog w = .ok (.enter 30 args) w := enters_of Try.func30 (by kernel_rfl) rfl
theorem OwnTb.blocks {w w' : World} {B : Nat} {v : Value} {l : List Rt} (h : OwnTb w B v l) (hB : B ≤ w.heap.size) (hk : Keeps (fun g => v.ownBlock = some g) w w') : Below B w w' := by
  obtain ⟨cs, ho, _⟩ := h
  exact hk.below B hB fun g hg => (own_block ho g hg).1
set_option maxHeartbeats 800000 in
theorem of_nil (peer : Int) (w : World) : Calls Try.prog 18 #[.pointer none, .int .i64 peer] w fun e w' => e = .returned (.slice none 0 0) ∧ Below w.heap.size w w' := by
  go_enter Try.func18, Try.ntmps18
  go_wp2_with fail
  refine (those_nil _ _).mono ?_
  rintro e w1 ⟨rfl, rfl⟩
  go_wp2_with fail
  refine (AnyF.slices_SortFunc_none sortR none 0 _ _).mono ?_
  rintro e w1 ⟨rfl, rfl⟩
  go_wp2
  go_ret
  exact ⟨rfl, (Below.refl _ _).alloc (Nat.le_refl _) _⟩
set_option maxHeartbeats 800000 in
theorem for_nil (A : Nat) (L : Int) (w : World) : Calls Try.prog 19 #[.pointer none, pfV A L] w fun e w' => e = .returned (.slice none 0 0) ∧ Below w.heap.size w w' := by
  go_enter Try.func19, Try.ntmps19
  go_wp2_with fail
  refine (those_nil _ _).mono ?_
  rintro e w1 ⟨rfl, rfl⟩
  go_wp2_with fail
  refine (AnyF.slices_SortFunc_none sortR none 0 _ _).mono ?_
  rintro e w1 ⟨rfl, rfl⟩
  go_wp2
  go_ret
  exact ⟨rfl, (Below.refl _ _).alloc (Nat.le_refl _) _⟩
set_option maxHeartbeats 1600000 in
theorem of_any (b : Nat) (l : List Rt) (peer : Int) (w : World) (h : Tab w b l) (hr : RisesR l) (hl : l.length ≤ 100000) :
    Calls Try.prog 18 #[tabV b, .int .i64 peer] w fun e w' => (∃ v, e = .returned v ∧ OwnTb w' w.heap.size v (ofL peer l)) ∧ Below w.heap.size w w' := by
  have hb1 : Below w.heap.size w (w.alloc (.cells #[.int .i64 peer] 3)) := (Below.refl _ _).alloc (Nat.le_refl _) _
  have hx1 : (w.alloc (.cells #[.int .i64 peer] 3)).cell? ⟨w.heap.size, 0, none⟩ = some (.int .i64 peer) := by simp [go_sem]
  have K := hide (those_any b 26 #[.pointer (some ⟨w.heap.size, 0, none⟩)] l (fun x => decide (x.peer = peer)) (w.alloc (.cells #[.int .i64 peer] 3)) (h.later hb1) hl enters_of1 (fun r w1 hb => of1_any r.A r.L r.peer peer w.heap.size w1 (by rw [hb.cell (p := ⟨w.heap.size, 0, none⟩) (by simp)]; exact hx1)))
  have HB1 := hide hb1
  have HR := hide hr
  have HL := hide hl
  have hs1 : w.heap.size ≤ (w.alloc (.cells #[.int .i64 peer] 3)).heap.size := by simp
  clear hb1 hx1 h hr hl
  go_enter Try.func18, Try.ntmps18
  go_wp2_with fail
  generalize w.alloc (.cells #[.int .i64 peer] 3) = w1 at *
  refine K.out.mono ?_
  rintro e w2 ⟨⟨v, acc, rfl, ho2, hp2⟩, hb2⟩
  have HO2 := hide ho2
  have HP2 := hide hp2
  have HB2 := hide hb2
  clear ho2 hp2 hb2 K
  go_wp2_with fail
  refine (sortTb cfP 28 swoP enters_pfx (fun s t W => byPrefix_any _ _ _ _ _ _ s.2 _ _ _ _ _ _ t.2 W) w1.heap.size v acc w2 HO2.out (by have := HP2.out.length_eq; have := List.length_filter_le (fun x : Rt => decide (x.peer = peer)) l; have := HL.out; omega)).mono ?_
  rintro e w3 ⟨rfl, ⟨l', hp3, hs3, ho3⟩, hk3⟩
  have HE : Hid (l' = ofL peer l) := sorted_of (hp3.trans HP2.out) (rises_of peer l HR.out) (fun x hx => ((mem_of peer l x).1 hx).2) hs3
  have HO3 : Hid (OwnTb w3 w.heap.size v (ofL peer l)) := by rw [← HE.out]; exact ho3.base hs1
  have HB3 : Hid (Below w.heap.size w w3) := (HB1.out.trans (HB2.out.mono hs1)).trans ((HO2.out.blocks HB2.out.size hk3).mono hs1)
  clear hp3 hs3 ho3 hk3 HE
  go_wp2
  go_ret
  exact ⟨⟨_, rfl, HO3.out⟩, HB3.out⟩
set_option maxHeartbeats 1600000 in
theorem for_any (b : Nat) (l : List Rt) (A : Nat) (L : Int) (w : World) (h : Tab w b l) (hr : RisesR l) (hl : l.length ≤ 100000) :
    Calls Try.prog 19 #[tabV b, pfV A L] w fun e w' => (∃ v, e = .returned v ∧ OwnTb w' w.heap.size v (whatL A L l)) ∧ Below w.heap.size w w' := by
  have hb1 : Below w.heap.size w (w.alloc (.cells #[.int .u32 (A : Int), .int .i64 L] 29)) := (Below.refl _ _).alloc (Nat.le_refl _) _
  have hx1 : (w.alloc (.cells #[.int .u32 (A : Int), .int .i64 L] 29)).cell? ⟨w.heap.size, 0, none⟩ = some (.int .u32 (A : Int)) := by simp [go_sem]
  have hy1 : (w.alloc (.cells #[.int .u32 (A : Int), .int .i64 L] 29)).cell? ⟨w.heap.size, 1, none⟩ = some (.int .i64 L) := by simp [go_sem]
  have K := hide (those_any b 29 #[.pointer (some ⟨w.heap.size, 0, none⟩)] l (fun x => decide (x.A = A) && decide (x.L = L)) (w.alloc (.cells #[.int .u32 (A : Int), .int .i64 L] 29)) (h.later hb1) hl enters_for1 (fun r w1 hb => for1_any r.A r.L r.peer A L w.heap.size w1 (by rw [hb.cell (p := ⟨w.heap.size, 0, none⟩) (by simp)]; exact hx1) (by rw [hb.cell (p := ⟨w.heap.size, 1, none⟩) (by simp)]; exact hy1)))
  have HB1 := hide hb1
  have HR := hide hr
  have HL := hide hl
  have hs1 : w.heap.size ≤ (w.alloc (.cells #[.int .u32 (A : Int), .int .i64 L] 29)).heap.size := by simp
  clear hb1 hx1 hy1 h hr hl
  go_enter Try.func19, Try.ntmps19
  go_wp2_with fail
  generalize w.alloc (.cells #[.int .u32 (A : Int), .int .i64 L] 29) = w1 at *
  refine K.out.mono ?_
  rintro e w2 ⟨⟨v, acc, rfl, ho2, hp2⟩, hb2⟩
  have HO2 := hide ho2
  have HP2 := hide hp2
  have HB2 := hide hb2
  clear ho2 hp2 hb2 K
  go_wp2_with fail
  refine (sortTb cfW 30 swoW enters_peer (fun s t W => byPeer_any _ _ _ _ _ _ s.2 _ _ _ _ _ _ t.2 W) w1.heap.size v acc w2 HO2.out (by have := HP2.out.length_eq; have := List.length_filter_le (fun x : Rt => decide (x.A = A) && decide (x.L = L)) l; have := HL.out; omega)).mono ?_
  rintro e w3 ⟨rfl, ⟨l', hp3, hs3, ho3⟩, hk3⟩
  have HE : Hid (l' = whatL A L l) := sorted_for (hp3.trans HP2.out) (rises_what A L l HR.out) (fun x hx => ((mem_what A L l x).1 hx).2) hs3
  have HO3 : Hid (OwnTb w3 w.heap.size v (whatL A L l)) := by rw [← HE.out]; exact ho3.base hs1
  have HB3 : Hid (Below w.heap.size w w3) := (HB1.out.trans (HB2.out.mono hs1)).trans ((HO2.out.blocks HB2.out.size hk3).mono hs1)
  clear hp3 hs3 ho3 hk3 HE
  go_wp2
  go_ret
  exact ⟨⟨_, rfl, HO3.out⟩, HB3.out⟩
end Go.Proofs.Ytjlmkaeepeamkaa
