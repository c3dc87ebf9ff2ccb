/- The program's Has and Usable. -/
import Derived.Test.YtolpaimmmhoiiaaRtH
import Derived.Test.YtolpaimmmhoiiaaMix
namespace Go.Proofs.Ytolpaimmmhoiiaa
open Go.RowKit
set_option maxRecDepth 100000

/-- The eleven cells of a route's box. -/
structure RtBx (w : World) (X : Nat) (pa : Option Addr) (pc : Nat) (ca : Option Addr) (cc : Nat) (ra : Option Addr) (rc : Nat) (r : Rt) : Prop where
  a : w.cell? ⟨X, 0, none⟩ = some (.int .u32 (r.A : Int))
  l : w.cell? ⟨X, 1, none⟩ = some (.int .i64 r.L)
  p : w.cell? ⟨X, 2, none⟩ = some (.int .i64 r.peer)
  t : AtBx w X 3 r.att.origin pa r.att.path.length pc r.att.next r.att.med r.att.pref ca r.att.comms.length cc ra r.att.raws.length rc
  s : w.cell? ⟨X, 10, none⟩ = some (.int .i64 r.stale)
theorem RtBx.below {w w' : World} {X : Nat} {pa : Option Addr} {pc : Nat} {ca : Option Addr} {cc : Nat} {ra : Option Addr} {rc : Nat} {r : Rt} (h : RtBx w X pa pc ca cc ra rc r) (hb : Below w.heap.size w w') : RtBx w' X pa pc ca cc ra rc r := by
  have k : X < w.heap.size := World.block_lt_of_cell? w _ h.a
  exact ⟨by rw [hb.cell (p := ⟨X, 0, none⟩) k]; exact h.a, by rw [hb.cell (p := ⟨X, 1, none⟩) k]; exact h.l, by rw [hb.cell (p := ⟨X, 2, none⟩) k]; exact h.p, h.t.below hb, by rw [hb.cell (p := ⟨X, 10, none⟩) k]; exact h.s⟩
theorem RtBx.lt {w : World} {X : Nat} {pa : Option Addr} {pc : Nat} {ca : Option Addr} {cc : Nat} {ra : Option Addr} {rc : Nat} {r : Rt} (h : RtBx w X pa pc ca cc ra rc r) : X < w.heap.size := World.block_lt_of_cell? w _ h.a
theorem rt_box (w : World) (pa : Option Addr) (pc : Nat) (ca : Option Addr) (cc : Nat) (ra : Option Addr) (rc : Nat) (r : Rt) (t : TypeId) : RtBx (w.alloc (.cells (rtC pa pc ca cc ra rc r) t)) w.heap.size pa pc ca cc ra rc r :=
  ⟨by unfold rtC; simp [go_sem], by unfold rtC; simp [go_sem], by unfold rtC; simp [go_sem], ⟨by unfold rtC; simp [go_sem], by unfold rtC; simp [go_sem], by unfold rtC; simp [go_sem], by unfold rtC; simp [go_sem], by unfold rtC; simp [go_sem], by unfold rtC; simp [go_sem], by unfold rtC; simp [go_sem]⟩, by unfold rtC; simp [go_sem]⟩
set_option maxHeartbeats 1600000 in
theorem usable_any (pa : Option Addr) (pc : Nat) (ca : Option Addr) (cc : Nat) (ra : Option Addr) (rc : Nat) (r : Rt) (x : Int) (w : World) (hl : r.att.path.length + sumP r.att.path ≤ 100000) (h : PthRd w pa r.att.path) :
    Calls Try.prog 20 #[rtV pa pc ca cc ra rc r, .int .i64 x] w fun e w' => e = .returned (.bool (!(hasP r.att.path x))) ∧ Below w.heap.size w w' := by
  have HC := hide h
  have HL := hide hl
  clear h hl
  have HM : Hid (∀ (w3 : World) (b c : Nat) (v : Value) (y : Bool), w3.cell? ⟨b, 0, none⟩ = some v → RuleIs w3 v (atV pa pc ca cc ra rc r.att) y → Calls Try.prog 38 #[.agg #[.int .i64 r.att.origin, .slice pa r.att.path.length pc, .int .u32 (r.att.next : Int), .int .i64 r.att.med, .int .i64 r.att.pref, .slice ca r.att.comms.length cc, .slice ra r.att.raws.length rc], .slice (some ⟨b, 0, none⟩) 1 c] w3 fun e w' => e = .returned (.bool y) ∧ Below w3.heap.size w3 w') := fun w3 b c v y h1 h2 => meets_one h1 h2
  have HR : Hid (∀ (w3 : World) (X Y : Nat), Below w.heap.size w w3 → w3.cell? ⟨X, 0, none⟩ = some (.int .i64 x) → w3.cell? ⟨Y, 0, none⟩ = some (.func (.func 51) #[] #[.pointer (some ⟨X, 0, none⟩)]) → RuleIs w3 (.func (.func 50) #[] #[.pointer (some ⟨Y, 0, none⟩)]) (atV pa pc ca cc ra rc r.att) (!(hasP r.att.path x))) := fun w3 X Y hb hX hY => rule_not (rule_leads HL.out (HC.out.below hb) hX) hY
  clear HC HL
  have HX : Hid (RtBx _ w.heap.size pa pc ca cc ra rc r) := rt_box w pa pc ca cc ra rc r 41
  have HB0 : Hid (Below w.heap.size w (w.alloc (.cells (rtC pa pc ca cc ra rc r) 41))) := (Below.refl _ _).alloc (Nat.le_refl _) _
  unfold rtC at HX HB0
  unfold rtV
  generalize (!(hasP r.att.path x)) = y at *
  go_enter Try.func20, Try.ntmps20
  go_wp2_with fail
  generalize w.alloc (.cells #[.int .u32 (r.A : Int), .int .i64 r.L, .int .i64 r.peer, .int .i64 r.att.origin, .slice pa r.att.path.length pc, .int .u32 (r.att.next : Int), .int .i64 r.att.med, .int .i64 r.att.pref, .slice ca r.att.comms.length cc, .slice ra r.att.raws.length rc, .int .i64 r.stale] 41) = w0 at *
  refine region_mix (fun w' => RtBx w' w.heap.size pa pc ca cc ra rc r) (fun k => k == 3 || k == 4 || k == 5 || k == 6) (by kernel_rfl) (by kernel_rfl) (by kernel_rfl) (HX.out.below (Below.refl _ _).drew) ?_
  repeat refine mix_q (by rfl) (by rfl) (fun w9 h9 => (by obtain ⟨_, _, _, ⟨c0, c1, c2, c3, c4, c5, c6⟩, _⟩ := h9; simp only [Nat.reduceAdd] at c1 c2 c3 c4 c5 c6; go_simp; first | done | rfl)) (by go_simp; first | done | rfl) ?_
  refine mix_l (by rfl) (by rfl) (by rfl) ?_
  go_simp
  refine (leads_any x _).mono ?_
  rintro e w1 ⟨rfl, rfl⟩
  refine ⟨HX.out.below ((Below.refl _ _).drew.alloc (Nat.le_refl _) _), ?_⟩
  refine mix_l (by rfl) (by rfl) (by rfl) ?_
  go_simp
  refine (not_any _ _ _).mono ?_
  rintro e w1 ⟨rfl, rfl⟩
  refine ⟨HX.out.below (((Below.refl _ _).drew.alloc (Nat.le_refl _) _).alloc (by simp) _), ?_⟩
  refine mix_l (by rfl) (by rfl) (by rfl) ?_
  go_simp
  refine ⟨HX.out.below ((((Below.refl _ _).drew.alloc (Nat.le_refl _) _).alloc (by simp) _).alloc (by simp <;> omega) _), ?_⟩
  refine mix_l (by rfl) (by rfl) (by rfl) ?_
  go_simp
  have hb3 : ∀ p q s, Below w.heap.size w (((w0.drew.alloc p).alloc q).alloc s) := fun p q s => ((HB0.out.drew.alloc HB0.out.size _).alloc (by have := HB0.out.size; simp; omega) _).alloc (by have := HB0.out.size; simp; omega) _
  refine (HM.out _ _ _ (.func (.func 50) #[] #[.pointer (some ⟨w0.heap.size + 1, 0, none⟩)]) _ (by simp [go_sem]) (HR.out _ w0.heap.size (w0.heap.size + 1) (hb3 _ _ _) (by simp [go_sem]) (by simp [go_sem]))).mono ?_
  rintro e w4 ⟨rfl, hb4⟩
  have hb5 : Below w0.heap.size w0 w4 := ((((Below.refl _ _).drew.alloc (Nat.le_refl _) _).alloc (by simp) _).alloc (by simp <;> omega) _).trans (hb4.mono (by simp <;> omega))
  refine ⟨HX.out.below hb5, ?_⟩
  repeat refine mix_q (by rfl) (by rfl) (fun w9 h9 => (by go_simp; first | done | rfl)) (by go_simp; first | done | rfl) ?_
  refine ⟨fun _ h => (by cases h), ?_⟩
  go_wp2
  go_ret
  exact ⟨rfl, HB0.out.trans (hb5.mono HB0.out.size)⟩
end Go.Proofs.Ytolpaimmmhoiiaa
