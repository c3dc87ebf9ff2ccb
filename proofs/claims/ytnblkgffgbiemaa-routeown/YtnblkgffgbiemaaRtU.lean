/- The program's Has and Usable. -/
import Derived.Test.YtnblkgffgbiemaaRtH
import Derived.Test.YtnblkgffgbiemaaMix
namespace Go.Proofs.Ytnblkgffgbiemaa
open Go.RowKit
set_option maxRecDepth 100000

set_option maxHeartbeats 1600000 in
theorem phas_any (pa : Option Addr) (pc : Nat) (ca : Option Addr) (cc : Nat) (ra : Option Addr) (rc : Nat) (a : At) (x : Nat) (w : World) (hl : a.comms.length ≤ 100000) (h : CRd w ca a.comms) :
    Calls Try.prog 15 #[atV pa pc ca cc ra rc a, .int .u32 (x : Int)] w fun e w' => e = .returned (.bool (hasC a.comms x)) ∧ Below w.heap.size w w' := by
  have HC := hide h
  have HL := hide hl
  clear h hl
  have HM : Hid (∀ (w3 : World) (b c : Nat) (v : Value) (y : Bool), w3.cell? ⟨b, 0, none⟩ = some v → RuleIs w3 v (atV pa pc ca cc ra rc a) y → Calls Try.prog 19 #[.agg #[.int .i64 a.origin, .slice pa a.path.length pc, .int .u32 (a.next : Int), .int .i64 a.med, .int .i64 a.pref, .slice ca a.comms.length cc, .slice ra a.raws.length rc], .slice (some ⟨b, 0, none⟩) 1 c] w3 fun e w' => e = .returned (.bool y) ∧ Below w3.heap.size w3 w') := fun w3 b c v y h1 h2 => meets_one h1 h2
  have HR : Hid (∀ (w3 : World) (X : Nat), Below w.heap.size w w3 → w3.cell? ⟨X, 0, none⟩ = some (.int .u32 (x : Int)) → RuleIs w3 (.func (.func 29) #[] #[.pointer (some ⟨X, 0, none⟩)]) (atV pa pc ca cc ra rc a) (hasC a.comms x)) := fun w3 X hb hX => rule_holds HL.out (HC.out.below hb) hX
  clear HC HL
  unfold atV
  generalize hasC a.comms x = y at *
  go_enter Try.func15, Try.ntmps15
  go_wp2_with fail
  have HB0 : Hid (Below w.heap.size w (w.alloc (.cells #[.int .i64 a.origin, .slice pa a.path.length pc, .int .u32 (a.next : Int), .int .i64 a.med, .int .i64 a.pref, .slice ca a.comms.length cc, .slice ra a.raws.length rc] 29))) := (Below.refl _ _).alloc (Nat.le_refl _) _
  have HX : Hid (AtBx (w.alloc (.cells #[.int .i64 a.origin, .slice pa a.path.length pc, .int .u32 (a.next : Int), .int .i64 a.med, .int .i64 a.pref, .slice ca a.comms.length cc, .slice ra a.raws.length rc] 29)) w.heap.size 0 a.origin pa a.path.length pc a.next a.med a.pref ca a.comms.length cc ra a.raws.length rc) := ⟨by simp [go_sem], by simp [go_sem], by simp [go_sem], by simp [go_sem], by simp [go_sem], by simp [go_sem], by simp [go_sem]⟩
  generalize w.alloc (.cells #[.int .i64 a.origin, .slice pa a.path.length pc, .int .u32 (a.next : Int), .int .i64 a.med, .int .i64 a.pref, .slice ca a.comms.length cc, .slice ra a.raws.length rc] 29) = w0 at *
  refine region_mix (fun w' => AtBx w' w.heap.size 0 a.origin pa a.path.length pc a.next a.med a.pref ca a.comms.length cc ra a.raws.length rc) (fun k => k == 2 || k == 3 || k == 4) (by kernel_rfl) (by kernel_rfl) (by kernel_rfl) (HX.out.below (Below.refl _ _).drew) ?_
  repeat refine mix_q (by rfl) (by rfl) (fun w9 h9 => (by obtain ⟨c0, c1, c2, c3, c4, c5, c6⟩ := h9; simp only [Nat.zero_add] at c1 c2 c3 c4 c5 c6; go_simp; first | done | rfl)) (by go_simp; first | done | rfl) ?_
  refine mix_l (by rfl) (by rfl) (by rfl) ?_
  go_simp
  refine (holdsr_any x _).mono ?_
  rintro e w1 ⟨rfl, rfl⟩
  refine ⟨HX.out.below ((Below.refl _ _).drew.alloc (Nat.le_refl _) _), ?_⟩
  refine mix_l (by rfl) (by rfl) (by rfl) ?_
  go_simp
  refine ⟨HX.out.below (((Below.refl _ _).drew.alloc (Nat.le_refl _) _).alloc (by simp) _), ?_⟩
  refine mix_l (by rfl) (by rfl) (by rfl) ?_
  go_simp
  have hb3 : ∀ p q, Below w.heap.size w ((w0.drew.alloc p).alloc q) := fun p q => (HB0.out.drew.alloc HB0.out.size _).alloc (by have := HB0.out.size; simp; omega) _
  refine (HM.out _ _ _ (.func (.func 29) #[] #[.pointer (some ⟨w0.heap.size, 0, none⟩)]) _ (by simp [go_sem]) (HR.out _ w0.heap.size (hb3 _ _) (by simp [go_sem]))).mono ?_
  rintro e w4 ⟨rfl, hb4⟩
  have hb5 : Below w0.heap.size w0 w4 := (((Below.refl _ _).drew.alloc (Nat.le_refl _) _).alloc (by simp) _).trans (hb4.mono (by simp <;> omega))
  refine ⟨HX.out.below hb5, ?_⟩
  repeat refine mix_q (by rfl) (by rfl) (fun w9 h9 => (by go_simp; first | done | rfl)) (by go_simp; first | done | rfl) ?_
  refine ⟨fun _ h => (by cases h), ?_⟩
  go_wp2
  go_ret
  exact ⟨rfl, HB0.out.trans (hb5.mono HB0.out.size)⟩
/-- The eleven cells of a route's box. -/
structure RtBx (w : World) (X : Nat) (pa : Option Addr) (pc : Nat) (ca : Option Addr) (cc : Nat) (ra : Option Addr) (rc : Nat) (r : Rt) : Prop where
  a : w.cell? ⟨X, 0, none⟩ = some (.int .u32 (r.A : Int))
  l : w.cell? ⟨X, 1, none⟩ = some (.int .i64 r.L)
  p : w.cell? ⟨X, 2, none⟩ = some (.int .i64 r.peer)
  t : AtBx w X 3 r.att.origin pa r.att.path.length pc r.att.next r.att.med r.att.pref ca r.att.comms.length cc ra r.att.raws.length rc
  s : w.cell? ⟨X, 10, none⟩ = some (.int .i64 r.stale)
theorem RtBx.below {w w' : World} {X : Nat} {pa : Option Addr} {pc : Nat} {ca : Option Addr} {cc : Nat} {ra : Option Addr} {rc : Nat} {r : Rt} (h : RtBx w X pa pc ca cc ra rc r) (hb : Below w.heap.size w w') : RtBx w' X pa pc ca cc ra rc r := by
  have k : X < w.heap.size := World.block_lt_of_cell? w _ h.a
  exact ⟨by rw [hb.cell (p := ⟨X, 0, none⟩) k]; exact h.a, by rw [hb.cell (p := ⟨X, 1, none⟩) k]; exact h.l, by rw [hb.cell (p := ⟨X, 2, none⟩) k]; exact h.p, h.t.below hb, by rw [hb.cell (p := ⟨X, 10, none⟩) k]; exact h.s⟩
theorem RtBx.lt {w : World} {X : Nat} {pa : Option Addr} {pc : Nat} {ca : Option Addr} {cc : Nat} {ra : Option Addr} {rc : Nat} {r : Rt} (h : RtBx w X pa pc ca cc ra rc r) : X < w.heap.size := World.block_lt_of_cell? w _ h.a
/-- A route's cells. -/
def rtC (pa : Option Addr) (pc : Nat) (ca : Option Addr) (cc : Nat) (ra : Option Addr) (rc : Nat) (r : Rt) : Array Value := #[.int .u32 (r.A : Int), .int .i64 r.L, .int .i64 r.peer, .int .i64 r.att.origin, .slice pa r.att.path.length pc, .int .u32 (r.att.next : Int), .int .i64 r.att.med, .int .i64 r.att.pref, .slice ca r.att.comms.length cc, .slice ra r.att.raws.length rc, .int .i64 r.stale]
theorem rt_box (w : World) (pa : Option Addr) (pc : Nat) (ca : Option Addr) (cc : Nat) (ra : Option Addr) (rc : Nat) (r : Rt) (t : TypeId) : RtBx (w.alloc (.cells (rtC pa pc ca cc ra rc r) t)) w.heap.size pa pc ca cc ra rc r :=
  ⟨by unfold rtC; simp [go_sem], by unfold rtC; simp [go_sem], by unfold rtC; simp [go_sem], ⟨by unfold rtC; simp [go_sem], by unfold rtC; simp [go_sem], by unfold rtC; simp [go_sem], by unfold rtC; simp [go_sem], by unfold rtC; simp [go_sem], by unfold rtC; simp [go_sem], by unfold rtC; simp [go_sem]⟩, by unfold rtC; simp [go_sem]⟩
set_option maxHeartbeats 1600000 in
theorem usable_any (pa : Option Addr) (pc : Nat) (ca : Option Addr) (cc : Nat) (ra : Option Addr) (rc : Nat) (r : Rt) (x : Int) (w : World) (hl : r.att.path.length + sumP r.att.path ≤ 100000) (h : PthRd w pa r.att.path) :
    Calls Try.prog 13 #[rtV pa pc ca cc ra rc r, .int .i64 x] w fun e w' => e = .returned (.bool (!(hasP r.att.path x))) ∧ Below w.heap.size w w' := by
  have HC := hide h
  have HL := hide hl
  clear h hl
  have HM : Hid (∀ (w3 : World) (b c : Nat) (v : Value) (y : Bool), w3.cell? ⟨b, 0, none⟩ = some v → RuleIs w3 v (atV pa pc ca cc ra rc r.att) y → Calls Try.prog 19 #[.agg #[.int .i64 r.att.origin, .slice pa r.att.path.length pc, .int .u32 (r.att.next : Int), .int .i64 r.att.med, .int .i64 r.att.pref, .slice ca r.att.comms.length cc, .slice ra r.att.raws.length rc], .slice (some ⟨b, 0, none⟩) 1 c] w3 fun e w' => e = .returned (.bool y) ∧ Below w3.heap.size w3 w') := fun w3 b c v y h1 h2 => meets_one h1 h2
  have HR : Hid (∀ (w3 : World) (X Y : Nat), Below w.heap.size w w3 → w3.cell? ⟨X, 0, none⟩ = some (.int .i64 x) → w3.cell? ⟨Y, 0, none⟩ = some (.func (.func 40) #[] #[.pointer (some ⟨X, 0, none⟩)]) → RuleIs w3 (.func (.func 31) #[] #[.pointer (some ⟨Y, 0, none⟩)]) (atV pa pc ca cc ra rc r.att) (!(hasP r.att.path x))) := fun w3 X Y hb hX hY => rule_not (rule_leads HL.out (HC.out.below hb) hX) hY
  clear HC HL
  have HX : Hid (RtBx _ w.heap.size pa pc ca cc ra rc r) := rt_box w pa pc ca cc ra rc r 31
  have HB0 : Hid (Below w.heap.size w (w.alloc (.cells (rtC pa pc ca cc ra rc r) 31))) := (Below.refl _ _).alloc (Nat.le_refl _) _
  unfold rtC at HX HB0
  unfold rtV
  generalize (!(hasP r.att.path x)) = y at *
  go_enter Try.func13, Try.ntmps13
  go_wp2_with fail
  generalize w.alloc (.cells #[.int .u32 (r.A : Int), .int .i64 r.L, .int .i64 r.peer, .int .i64 r.att.origin, .slice pa r.att.path.length pc, .int .u32 (r.att.next : Int), .int .i64 r.att.med, .int .i64 r.att.pref, .slice ca r.att.comms.length cc, .slice ra r.att.raws.length rc, .int .i64 r.stale] 31) = w0 at *
  refine region_mix (fun w' => RtBx w' w.heap.size pa pc ca cc ra rc r) (fun k => k == 3 || k == 4 || k == 5 || k == 6) (by kernel_rfl) (by kernel_rfl) (by kernel_rfl) (HX.out.below (Below.refl _ _).drew) ?_
  repeat refine mix_q (by rfl) (by rfl) (fun w9 h9 => (by obtain ⟨_, _, _, ⟨c0, c1, c2, c3, c4, c5, c6⟩, _⟩ := h9; simp only [Nat.reduceAdd] at c1 c2 c3 c4 c5 c6; go_simp; first | done | rfl)) (by go_simp; first | done | rfl) ?_
  refine mix_l (by rfl) (by rfl) (by rfl) ?_
  go_simp
  refine (leads_any x _).mono ?_
  rintro e w1 ⟨rfl, rfl⟩
  refine ⟨HX.out.below ((Below.refl _ _).drew.alloc (Nat.le_refl _) _), ?_⟩
  refine mix_l (by rfl) (by rfl) (by rfl) ?_
  go_simp
  refine (not_any _ _ _).mono ?_
  rintro e w1 ⟨rfl, rfl⟩
  refine ⟨HX.out.below (((Below.refl _ _).drew.alloc (Nat.le_refl _) _).alloc (by simp) _), ?_⟩
  refine mix_l (by rfl) (by rfl) (by rfl) ?_
  go_simp
  refine ⟨HX.out.below ((((Below.refl _ _).drew.alloc (Nat.le_refl _) _).alloc (by simp) _).alloc (by simp <;> omega) _), ?_⟩
  refine mix_l (by rfl) (by rfl) (by rfl) ?_
  go_simp
  have hb3 : ∀ p q s, Below w.heap.size w (((w0.drew.alloc p).alloc q).alloc s) := fun p q s => ((HB0.out.drew.alloc HB0.out.size _).alloc (by have := HB0.out.size; simp; omega) _).alloc (by have := HB0.out.size; simp; omega) _
  refine (HM.out _ _ _ (.func (.func 31) #[] #[.pointer (some ⟨w0.heap.size + 1, 0, none⟩)]) _ (by simp [go_sem]) (HR.out _ w0.heap.size (w0.heap.size + 1) (hb3 _ _ _) (by simp [go_sem]) (by simp [go_sem]))).mono ?_
  rintro e w4 ⟨rfl, hb4⟩
  have hb5 : Below w0.heap.size w0 w4 := ((((Below.refl _ _).drew.alloc (Nat.le_refl _) _).alloc (by simp) _).alloc (by simp <;> omega) _).trans (hb4.mono (by simp <;> omega))
  refine ⟨HX.out.below hb5, ?_⟩
  repeat refine mix_q (by rfl) (by rfl) (fun w9 h9 => (by go_simp; first | done | rfl)) (by go_simp; first | done | rfl) ?_
  refine ⟨fun _ h => (by cases h), ?_⟩
  go_wp2
  go_ret
  exact ⟨rfl, HB0.out.trans (hb5.mono HB0.out.size)⟩
end Go.Proofs.Ytnblkgffgbiemaa
