/- The program's Mark. -/
import Derived.Test.YtnblkgffgbiemaaRtW
namespace Go.Proofs.Ytnblkgffgbiemaa
open Go.RowKit
set_option maxRecDepth 100000

/-- Has it to be told on that it is a last resort? -/
def lastB (r : Rt) : Bool := !(hasC r.att.comms 4294901766) && decide ((r.att.comms.length : Int) < 32)
/-- A route that is marked, if it can be. -/
def markA (r : Rt) (st : Int) : At := if st = 2 ∧ lastB r = true then { r.att with comms := r.att.comms ++ [4294901766] } else r.att
def markR (r : Rt) (st : Int) : Option Rt := if st = 2 ∧ hasC r.att.comms 4294901767 = true then none else some { r with att := markA r st, stale := st }
/-- What Mark answers. -/
def MarkIs (w w' : World) (e : Ending) : Option Rt → Prop
  | none => e = .returned (.tuple #[.agg zR, .bool false])
  | some m => ∃ pa pc ca cc ra rc, e = .returned (.tuple #[rtV pa pc ca cc ra rc m, .bool true]) ∧ OwnAt w' w.heap.size pa pc ca cc ra rc m.att
section
variable {ρ : Operand → Value} {dst : Option Tmp} {ty : TypeId} {pos : String} {after : Array Edge} {gd : Option (Nat × Bool)}
theorem exec_loadA {w : World} {X : Nat} {x : Operand} {pa : Option Addr} {pc : Nat} {ca : Option Addr} {cc : Nat} {ra : Option Addr} {rc : Nat} {r : Rt} (hx : ρ x = .pointer (some ⟨X, 3, none⟩)) (h : Bl w X (rtC pa pc ca cc ra rc r)) :
    (execOp ρ { dst := dst, op := .load 29 x, type := ty, pos := pos, after := after, guard := gd }).run Try.prog w = .ok (.value (atV pa pc ca cc ra rc r.att)) w := by
  have hr := run_loadA h
  unfold execOp
  simp only [hx, Sem.run_bind, hr, Result.andThen_ok, Sem.run_pure]
end
theorem OwnAt.more {w : World} {B : Nat} {pa : Option Addr} {pc : Nat} {ca : Option Addr} {cc : Nat} {ra : Option Addr} {rc : Nat} {a : At} (h : OwnAt w B pa pc ca cc ra rc a) (hB : B ≤ w.heap.size) (hl : a.comms.length ≤ 100000) (x : Nat) :
    ∃ ca' cc' w', (Builtin.append_ #[26, 26] 26 #[.slice ca a.comms.length cc, .slice (some ⟨w.heap.size, 0, none⟩) 1 1]).run Try.prog (w.alloc (.cells #[.int .u32 (x : Int)] 22)) = .ok (.slice ca' (a.comms.length + 1) cc') w' ∧ OwnAt w' B pa pc ca' cc' ra rc { a with comms := a.comms ++ [x] } ∧ Below B w w' ∧ ∀ X C, Bl w X C → Bl w' X C := by
  obtain ⟨h1, h2, h3⟩ := h
  have hbw : Below w.heap.size w (w.alloc (.cells #[.int .u32 (x : Int)] 22)) := (Below.refl _ _).alloc (Nat.le_refl _) _
  obtain ⟨v', w', hr, ho, hb, hg, _⟩ := app_more elemU32 (w := w.alloc (.cells #[.int .u32 (x : Int)] 22)) (h2.alloc _) (by simp; omega) ⟨w.heap.size, 0, none⟩ 1 1 [.int .u32 (x : Int)] rfl (fun j u hu => by
    rw [Addr.add_mid, Nat.zero_add, World.cell?_alloc_mark]
    simpa using hu) (by intro u hu; simp at hu; subst hu; rfl) (by omega)
  obtain ⟨a9, c9, rfl⟩ := own_shape ho
  have hc : ∀ (e size n : Nat) (u : Value) (ys : List Value), e ≠ 22 → w.ownsRow B e size u n ys → w'.ownsRow B e size u n ys := fun e size n u ys hne hu =>
    own_grown (own_later hu hbw) hg (fun k hk => own_apart hu h2 hne k hk)
  refine ⟨a9, c9, w', hr, ⟨?_, ?_, ?_⟩, ((Below.refl _ _).alloc hB _).trans hb, fun X C hX => ?_⟩
  · obtain ⟨cs, q1, q2⟩ := h1
    refine ⟨cs, hc _ _ _ _ _ (by decide) q1, fun i s hi => ?_⟩
    obtain ⟨p1, u, p2, p3⟩ := q2 i s hi
    exact ⟨p1, u, p2, hc _ _ _ _ _ (by decide) p3⟩
  · have e : ucells (a.comms ++ [x]) = ucells a.comms ++ [.int .u32 (x : Int)] := by simp [ucells]
    rw [List.length_append, e]
    exact ho
  · obtain ⟨cs, q1, q2⟩ := h3
    refine ⟨cs, hc _ _ _ _ _ (by decide) q1, fun i s hi => ?_⟩
    obtain ⟨p0, p1, u, p2, p3⟩ := q2 i s hi
    exact ⟨p0, p1, u, p2, hc _ _ _ _ _ (by decide) p3⟩
  · have h9 := hX.below hbw
    unfold Bl
    rw [hg.block X h9.lt (fun e => ?_)]
    · exact h9
    · rcases h2.2 with ⟨e2, _⟩ | ⟨g, cap, cur, e2, _, hcur, _⟩
      · rw [e2] at e; simp [Value.ownBlock] at e
      · rw [e2] at e
        simp [Value.ownBlock] at e
        subst e
        unfold Bl at hX
        rw [hX] at hcur
        injection hcur with hcur
        injection hcur with _ h9 _
        revert h9
        decide
/-- What is stored into a route's box turns nothing that attributes lead to. -/
theorem OwnAt.stored {w : World} {B Y : Nat} {C : Array Value} {pa : Option Addr} {pc : Nat} {ca : Option Addr} {cc : Nat} {ra : Option Addr} {rc : Nat} {a : At} (h : OwnAt w B pa pc ca cc ra rc a) (hY : Bl w Y C) (j : Nat) (v : Value) : OwnAt (w.setCell ⟨Y, j, none⟩ v) B pa pc ca cc ra rc a := by
  have hc : ∀ (e size n : Nat) (u : Value) (ys : List Value), e ≠ 31 → w.ownsRow B e size u n ys → (w.setCell ⟨Y, j, none⟩ v).ownsRow B e size u n ys := fun e size n u ys hne hu => by
    refine ⟨hu.1, ?_⟩
    rcases hu.2 with hh | ⟨g, cap, cur, e1, hg, hcur, rest⟩
    · exact .inl hh
    · refine .inr ⟨g, cap, cur, e1, hg, ?_, rest⟩
      rw [heap_setCell w Y j v g (fun e9 => by
        subst e9
        unfold Bl at hY
        rw [hY] at hcur
        injection hcur with hcur
        injection hcur with _ h9 _
        exact hne h9.symm)]
      exact hcur
  obtain ⟨h1, h2, h3⟩ := h
  refine ⟨?_, hc _ _ _ _ _ (by decide) h2, ?_⟩
  · obtain ⟨cs, q1, q2⟩ := h1
    refine ⟨cs, hc _ _ _ _ _ (by decide) q1, fun i s hi => ?_⟩
    obtain ⟨p1, u, p2, p3⟩ := q2 i s hi
    exact ⟨p1, u, p2, hc _ _ _ _ _ (by decide) p3⟩
  · obtain ⟨cs, q1, q2⟩ := h3
    refine ⟨cs, hc _ _ _ _ _ (by decide) q1, fun i s hi => ?_⟩
    obtain ⟨p0, p1, u, p2, p3⟩ := q2 i s hi
    exact ⟨p0, p1, u, p2, hc _ _ _ _ _ (by decide) p3⟩
section
attribute [local go_sem ↓] keptR_load keptR_store keptR_box keptR_alloc keptR_build kept_app
set_option maxHeartbeats 3200000 in
theorem mark_other (pa : Option Addr) (pc : Nat) (ca : Option Addr) (cc : Nat) (ra : Option Addr) (rc : Nat) (r : Rt) (st : Int) (w : World) (hl : sizeA r.att ≤ 100000) (h : AtRd w pa ca ra r.att) (hst : st ≠ 2) :
    Calls Try.prog 9 #[rtV pa pc ca cc ra rc r, .int .i64 st] w fun e w' => MarkIs w w' e (markR r st) ∧ Below w.heap.size w w' := by
  have HR := hide h
  have HL : Hid (sizeA r.att ≤ 100000 ∧ r.att.comms.length ≤ 100000) := by show _ ∧ _; refine ⟨hl, ?_⟩; unfold sizeA at hl; omega
  clear h hl
  rw [rtV_eq]
  have HM : Hid (markR r st = some { r with stale := st }) := by show _ = _; unfold markR markA; rw [if_neg (fun h => hst h.1), if_neg (fun h => hst h.1)]
  have hst2 : (st == 2) = false := by simpa using hst
  clear hst
  go_enter Try.func9, Try.ntmps9
  go_wp2_with fail
  refine kept_box_intro _ _ _ (by rfl) (run_boxR (rtC pa pc ca cc ra rc r) w) ?_
  go_wp2_with fail
  refine kept_alloc_intro _ (run_allocR _) ?_
  obtain ⟨W0, hW0⟩ : ∃ W0, W0 = (w.alloc (.cells (rtC pa pc ca cc ra rc r) 31)).alloc (.cells zR 31) := ⟨_, rfl⟩
  have HS0 : Hid (W0.heap.size = w.heap.size + 2) := by show _ = _; rw [hW0]; simp
  have HB0 : Hid (Below w.heap.size w W0) := by show Below _ _ _; rw [hW0]; exact ((Below.refl _ _).alloc (Nat.le_refl _) _).alloc (by simp) _
  have HX0 : Hid (Bl W0 w.heap.size (rtC pa pc ca cc ra rc r)) := by show Bl _ _ _; rw [hW0]; exact (Bl.new w _).below ((Below.refl _ _).alloc (Nat.le_refl _) _)
  have HY0 : Hid (Bl W0 (w.heap.size + 1) zR) := by show Bl _ _ _; rw [hW0]; have := Bl.new (w.alloc (.cells (rtC pa pc ca cc ra rc r) 31)) zR; simpa using this
  rw [← hW0]
  simp only [World.size_alloc]
  clear hW0
  go_wp2_with fail
  refine region_mix (fun w' => Bl w' w.heap.size (rtC pa pc ca cc ra rc r)) (fun k => k == 5 || k == 6 || k == 7) (by kernel_rfl) (by kernel_rfl) (by kernel_rfl) (HX0.out.below (Below.refl _ _).drew) ?_
  refine mix_q (by rfl) (by rfl) (fun w9 h9 => (by go_simp; first | done | rfl)) (by go_simp; first | done | rfl) ?_
  refine mix_q (by rfl) (by rfl) (fun w9 h9 => (by go_simp; first | done | rfl)) (by go_simp; first | done | rfl) ?_
  refine mix_q (by rfl) (by rfl) (fun w9 h9 => (by go_simp; first | done | rfl)) (by go_simp; first | done | rfl) ?_
  refine mix_s (by rfl) (by rfl) (by go_simp; first | done | rfl) ?_
  refine mix_s (by rfl) (by rfl) (by go_simp; first | done | rfl) ?_
  refine mix_ls (by rfl) (by rfl) (by rfl) (by go_simp; first | done | rfl) (HX0.out.below (Below.refl _ _).drew) ?_
  refine mix_ls (by rfl) (by rfl) (by rfl) (by go_simp; first | done | rfl) (HX0.out.below (Below.refl _ _).drew) ?_
  refine mix_ls (by rfl) (by rfl) (by rfl) (by go_simp; first | done | rfl) (HX0.out.below (Below.refl _ _).drew) ?_
  refine mix_q (by rfl) (by rfl) (fun w9 h9 => (by go_simp; first | done | rfl)) (by go_simp; first | done | rfl) ?_
  refine ⟨fun _ h => (by cases h), ?_⟩
  have HB1 : Hid (Below w.heap.size w W0.drew) := HB0.out.drew
  have HX1 := hide (HX0.out.below (Below.refl _ _).drew)
  have HY1 := hide (HY0.out.below (Below.refl _ _).drew)
  have hs1 : w.heap.size + 2 ≤ W0.drew.heap.size := by show _ ≤ W0.heap.size; have := HS0.out; omega
  generalize W0.drew = w1 at *
  clear HB0 HX0 HY0 HS0
  go_wp2_with fail
  refine kept_load_intro _ _ _ (by rfl) (run_loadR HX1.out (RC.rt _ _ _ _ _ _ _)) ?_
  go_wp2_with fail
  refine (own_any pa pc ca cc ra rc r w1 HL.out.1 (HR.out.below HB1.out)).mono ?_
  rintro e w2 ⟨⟨pa9, pc9, ca9, cc9, ra9, rc9, rfl, ho2⟩, hb2⟩
  have HB2 : Hid (Below w.heap.size w w2) := HB1.out.trans (hb2.mono (by omega))
  have HX2 := hide (HX1.out.below hb2)
  have HY2 := hide (HY1.out.below hb2)
  have hs2 : w.heap.size + 2 ≤ w2.heap.size := by have := hb2.size; omega
  have HO2 : Hid (OwnAt w2 (w.heap.size + 2) pa9 pc9 ca9 cc9 ra9 rc9 r.att) := ho2.base hs1
  clear ho2 hb2 HB1 HX1 HY1 hs1
  go_wp2_with fail
  refine kept_alloc_intro _ (run_allocR _) ?_
  go_wp2_with fail
  refine kept_store_intro _ _ _ (.agg (rtC pa9 pc9 ca9 cc9 ra9 rc9 r)) (by rfl) (by rfl) (run_storeR (Bl.new w2 zR) rfl (RC.rt _ _ _ _ _ _ _)) ?_
  have hb3 : Below w2.heap.size w2 ((w2.alloc (.cells zR 31)).setCells w2.heap.size 0 (rtC pa9 pc9 ca9 cc9 ra9 rc9 r).toList) := below_puts ((Below.refl _ _).alloc (Nat.le_refl _) _) (Nat.le_refl _) _
  have HZ3 : Hid (Bl ((w2.alloc (.cells zR 31)).setCells w2.heap.size 0 (rtC pa9 pc9 ca9 cc9 ra9 rc9 r).toList) w2.heap.size (rtC pa9 pc9 ca9 cc9 ra9 rc9 r)) := (Bl.new w2 zR).put rfl
  have HS3 : Hid (((w2.alloc (.cells zR 31)).setCells w2.heap.size 0 (rtC pa9 pc9 ca9 cc9 ra9 rc9 r).toList).heap.size = w2.heap.size + 1) := by show _ = _; rw [size_puts]; simp
  obtain ⟨Y, hY⟩ : ∃ Y, Y = w2.heap.size := ⟨_, rfl⟩
  rw [← hY] at hb3 HZ3 HS3 ⊢
  generalize (w2.alloc (.cells zR 31)).setCells Y 0 (rtC pa9 pc9 ca9 cc9 ra9 rc9 r).toList = w3 at *
  have HB3 : Hid (Below w.heap.size w w3) := HB2.out.trans (hb3.mono (by omega))
  have HX3 : Hid (Bl w3 w.heap.size (rtC pa pc ca cc ra rc r)) := by rw [hY] at hb3; exact HX2.out.below hb3
  have HY3 : Hid (Bl w3 (w.heap.size + 1) zR) := by rw [hY] at hb3; exact HY2.out.below hb3
  have HO3 : Hid (OwnAt w3 (w.heap.size + 2) pa9 pc9 ca9 cc9 ra9 rc9 r.att) := by rw [hY] at hb3; exact HO2.out.later hb3
  have hYs : w.heap.size + 2 ≤ Y := by omega
  have hOY : Hid (∀ w', Keeps (fun k => k = Y) w3 w' → OwnAt w' (w.heap.size + 2) pa9 pc9 ca9 cc9 ra9 rc9 r.att) := fun w' hk => by
    have hbk : Below w2.heap.size w2 w' := (by rw [← hY]; exact hb3.trans (hk.below Y (by have := HS3.out; omega) (fun b e => by omega)))
    exact HO2.out.later hbk
  clear hb3 HB2 HX2 HY2 HO2 hs2 hY
  have c10 : w3.cell? ⟨Y, 10, none⟩ = some (.int .i64 r.stale) := HZ3.out.cell 10 rfl
  have f10 := HZ3.out.frozen 10
  have z3 : Y < w3.heap.size := by have := HS3.out; omega
  go_wp2_with fail
  have hk4 := (Keeps.refl (fun k => k = Y) w3).setCell Y 10 (.int .i64 st) (.inl rfl)
  have HO4 := hide (hOY.out _ hk4)
  have HZ4 : Hid (Bl (w3.setCell ⟨Y, 10, none⟩ (.int .i64 st)) Y (rtC pa9 pc9 ca9 cc9 ra9 rc9 { r with stale := st })) := HZ3.out.set 10 (.int .i64 st)
  have HX4 := hide (HX3.out.other 10 (.int .i64 st) (Y := Y) (by omega))
  have HY4 := hide (HY3.out.other 10 (.int .i64 st) (Y := Y) (by omega))
  have HB4 : Hid (Below w.heap.size w (w3.setCell ⟨Y, 10, none⟩ (.int .i64 st))) := HB3.out.setCell (by show w.heap.size ≤ Y; omega) _
  have HS4 : Hid ((w3.setCell ⟨Y, 10, none⟩ (.int .i64 st)).heap.size = Y + 1) := by show _ = _; simpa using HS3.out
  clear hk4
  generalize w3.setCell ⟨Y, 10, none⟩ (.int .i64 st) = w4 at *
  clear c10 f10 z3 HB3 HX3 HY3 HO3 hOY HZ3 HS3
  refine region_mix (fun w' => Bl w' w.heap.size (rtC pa pc ca cc ra rc r)) (fun k => k == 5 || k == 6 || k == 7 || k == 8 || k == 9) (by kernel_rfl) (by kernel_rfl) (by kernel_rfl) (HX4.out.below (Below.refl _ _).drew) ?_
  refine mix_q (by rfl) (by rfl) (fun w9 h9 => (by go_simp; first | done | rfl)) (by go_simp; first | done | rfl) ?_
  refine mix_q (by rfl) (by rfl) (fun w9 h9 => (by go_simp; first | done | rfl)) (by go_simp; first | done | rfl) ?_
  refine mix_q (by rfl) (by rfl) (fun w9 h9 => (by go_simp; first | done | rfl)) (by go_simp; first | done | rfl) ?_
  refine mix_s (by rfl) (by rfl) (by go_simp; first | done | rfl) ?_
  refine mix_s (by rfl) (by rfl) (by go_simp; first | done | rfl) ?_
  refine mix_ls (by rfl) (by rfl) (by rfl) (by go_simp; first | done | rfl) (HX4.out.below (Below.refl _ _).drew) ?_
  refine mix_ls (by rfl) (by rfl) (by rfl) (by go_simp; first | done | rfl) (HX4.out.below (Below.refl _ _).drew) ?_
  refine mix_ls (by rfl) (by rfl) (by rfl) (by go_simp; first | done | rfl) (HX4.out.below (Below.refl _ _).drew) ?_
  refine mix_ls (by rfl) (by rfl) (by rfl) (by go_simp; first | done | rfl) (HX4.out.below (Below.refl _ _).drew) ?_
  refine mix_ls (by rfl) (by rfl) (by rfl) (by go_simp; first | done | rfl) (HX4.out.below (Below.refl _ _).drew) ?_
  refine mix_q (by rfl) (by rfl) (fun w9 h9 => (by go_simp; first | done | rfl)) (by go_simp; first | done | rfl) ?_
  refine ⟨fun _ h => (by cases h), ?_⟩
  have hb5 : Below w4.heap.size w4 w4.drew := (Below.refl _ _).drew
  generalize w4.drew = w5 at *
  have HB5 : Hid (Below w.heap.size w w5) := HB4.out.trans (hb5.mono HB4.out.size)
  have HY5 := hide (HY4.out.below hb5)
  have HZ5 := hide (HZ4.out.below hb5)
  have HO5 := hide (HO4.out.later hb5)
  have hs5 : Y + 1 ≤ w5.heap.size := by have := hb5.size; have := HS4.out; omega
  clear hb5 HB4 HX4 HY4 HZ4 HO4 HS4
  go_wp2_with fail
  refine kept_load_intro _ _ _ (by rfl) (run_loadR HZ5.out (RC.rt _ _ _ _ _ _ _)) ?_
  go_wp2_with fail
  refine kept_store_intro _ _ _ _ (by rfl) (by rfl) (run_storeR HY5.out rfl (RC.rt _ _ _ _ _ _ _)) ?_
  have HY9 : Hid (Bl (w5.setCells (w.heap.size + 1) 0 (rtC pa9 pc9 ca9 cc9 ra9 rc9 { r with stale := st }).toList) (w.heap.size + 1) (rtC pa9 pc9 ca9 cc9 ra9 rc9 { r with stale := st })) := HY5.out.put rfl
  have hkk := (Keeps.refl (fun k => k = w.heap.size + 1) w5).setCells (w.heap.size + 1) 0 (rtC pa9 pc9 ca9 cc9 ra9 rc9 { r with stale := st }).toList (.inl rfl)
  have HA9 := hide ((HO5.out.keeps hkk (fun b h1 h2 => by omega)).base (B' := w.heap.size) (by omega))
  have HB9 := hide (below_puts HB5.out (X := w.heap.size + 1) (by omega) (rtC pa9 pc9 ca9 cc9 ra9 rc9 { r with stale := st }).toList)
  clear hkk HZ5 HY5 HB5 HO5
  generalize w5.setCells (w.heap.size + 1) 0 (rtC pa9 pc9 ca9 cc9 ra9 rc9 { r with stale := st }).toList = w9 at *
  go_wp2_with fail
  rw [HM.out]
  refine bodyPost_ret (v := .tuple #[.agg (rtC pa9 pc9 ca9 cc9 ra9 rc9 { r with stale := st }), .bool true]) (res_two Try.results9 _ w9 (w.heap.size + 1) _ _ rfl rfl HY9.out (RC.rt _ _ _ _ _ _ _)) rfl ⟨⟨pa9, pc9, ca9, cc9, ra9, rc9, rfl, HA9.out⟩, HB9.out⟩
set_option maxHeartbeats 3200000 in
theorem mark_none (pa : Option Addr) (pc : Nat) (ca : Option Addr) (cc : Nat) (ra : Option Addr) (rc : Nat) (r : Rt) (w : World) (hl : sizeA r.att ≤ 100000) (h : AtRd w pa ca ra r.att) (hn : hasC r.att.comms 4294901767 = true) :
    Calls Try.prog 9 #[rtV pa pc ca cc ra rc r, .int .i64 2] w fun e w' => MarkIs w w' e (markR r 2) ∧ Below w.heap.size w w' := by
  have HR := hide h
  have HL : Hid (sizeA r.att ≤ 100000 ∧ r.att.comms.length ≤ 100000) := by show _ ∧ _; refine ⟨hl, ?_⟩; unfold sizeA at hl; omega
  clear h hl
  rw [rtV_eq]
  have HN := hide hn
  have HM : Hid (markR r 2 = none) := by show _ = _; unfold markR; rw [if_pos ⟨rfl, hn⟩]
  clear hn
  go_enter Try.func9, Try.ntmps9
  go_wp2_with fail
  refine kept_box_intro _ _ _ (by rfl) (run_boxR (rtC pa pc ca cc ra rc r) w) ?_
  go_wp2_with fail
  refine kept_alloc_intro _ (run_allocR _) ?_
  obtain ⟨W0, hW0⟩ : ∃ W0, W0 = (w.alloc (.cells (rtC pa pc ca cc ra rc r) 31)).alloc (.cells zR 31) := ⟨_, rfl⟩
  have HS0 : Hid (W0.heap.size = w.heap.size + 2) := by show _ = _; rw [hW0]; simp
  have HB0 : Hid (Below w.heap.size w W0) := by show Below _ _ _; rw [hW0]; exact ((Below.refl _ _).alloc (Nat.le_refl _) _).alloc (by simp) _
  have HX0 : Hid (Bl W0 w.heap.size (rtC pa pc ca cc ra rc r)) := by show Bl _ _ _; rw [hW0]; exact (Bl.new w _).below ((Below.refl _ _).alloc (Nat.le_refl _) _)
  have HY0 : Hid (Bl W0 (w.heap.size + 1) zR) := by show Bl _ _ _; rw [hW0]; have := Bl.new (w.alloc (.cells (rtC pa pc ca cc ra rc r) 31)) zR; simpa using this
  rw [← hW0]
  simp only [World.size_alloc]
  clear hW0
  go_wp2_with fail
  refine region_mix (fun w' => Bl w' w.heap.size (rtC pa pc ca cc ra rc r)) (fun k => k == 5 || k == 6 || k == 7) (by kernel_rfl) (by kernel_rfl) (by kernel_rfl) (HX0.out.below (Below.refl _ _).drew) ?_
  refine mix_q (by rfl) (by rfl) (fun w9 h9 => (by go_simp; first | done | rfl)) (by go_simp; first | done | rfl) ?_
  refine mix_q (by rfl) (by rfl) (fun w9 h9 => (by go_simp; first | done | rfl)) (by go_simp; first | done | rfl) ?_
  refine mix_q (by rfl) (by rfl) (fun w9 h9 => (by go_simp; first | done | rfl)) (by go_simp; first | done | rfl) ?_
  refine mix_q (by rfl) (by rfl) (fun w9 h9 => (by go_simp; first | done | rfl)) (by go_simp; first | done | rfl) ?_
  refine mix_q (by rfl) (by rfl) (fun w9 h9 => exec_loadA (by rfl) h9) (by go_simp; first | done | rfl) ?_
  refine mix_l (by rfl) (by rfl) (by rfl) ?_
  go_simp
  refine (holdsr_any 4294901767 _).mono ?_
  rintro e w1 ⟨rfl, rfl⟩
  refine ⟨HX0.out.below ((Below.refl _ _).drew.alloc (Nat.le_refl _) _), ?_⟩
  refine mix_l (by rfl) (by rfl) (by rfl) ?_
  go_simp
  refine ⟨HX0.out.below (((Below.refl _ _).drew.alloc (Nat.le_refl _) _).alloc (by simp) _), ?_⟩
  refine mix_l (by rfl) (by rfl) (by rfl) ?_
  go_simp
  have hb3 : ∀ p q, Below w.heap.size w ((W0.drew.alloc p).alloc q) := fun p q => (HB0.out.drew.alloc HB0.out.size _).alloc (by have := HB0.out.size; simp; omega) _
  refine (meets_one (v := .func (.func 29) #[] #[.pointer (some ⟨W0.heap.size, 0, none⟩)]) (by simp [go_sem]) (rule_holds (X := W0.heap.size) (x := 4294901767) HL.out.2 (HR.out.comms.below (hb3 _ _)) (by simp [go_sem]))).mono ?_
  rw [HN.out]
  rintro e w1 ⟨rfl, hb4⟩
  have hb5 : Below W0.heap.size W0 w1 := (((Below.refl _ _).drew.alloc (Nat.le_refl _) _).alloc (by simp) _).trans (hb4.mono (by simp <;> omega))
  refine ⟨HX0.out.below hb5, ?_⟩
  refine mix_q (by rfl) (by rfl) (fun w9 h9 => (by go_simp; first | done | rfl)) (by go_simp; first | done | rfl) ?_
  refine ⟨fun _ h => (by cases h), ?_⟩
  have HB1 : Hid (Below w.heap.size w w1) := HB0.out.trans (hb5.mono HB0.out.size)
  have HX1 := hide (HX0.out.below hb5)
  have HY1 := hide (HY0.out.below hb5)
  have hs1 : w.heap.size + 2 ≤ w1.heap.size := by have := hb5.size; have := HS0.out; omega
  clear hb3 hb4 hb5 HB0 HX0 HY0 HS0
  go_wp2_with fail
  refine kept_build0_intro _ (run_build0R _) ?_
  go_wp2_with fail
  refine kept_store_intro _ _ _ _ (by rfl) (by rfl) (run_storeR HY1.out rfl RC.zero) ?_
  have HY9 : Hid (Bl (w1.setCells (w.heap.size + 1) 0 zR.toList) (w.heap.size + 1) zR) := HY1.out.put rfl
  have HB9 := hide (below_puts HB1.out (X := w.heap.size + 1) (by omega) zR.toList)
  generalize w1.setCells (w.heap.size + 1) 0 zR.toList = w9 at *
  go_wp2_with fail
  rw [HM.out]
  refine bodyPost_ret (v := .tuple #[.agg zR, .bool false]) (res_two Try.results9 _ w9 (w.heap.size + 1) _ _ rfl rfl HY9.out RC.zero) rfl ⟨rfl, HB9.out⟩
set_option maxHeartbeats 3200000 in
theorem mark_plain (pa : Option Addr) (pc : Nat) (ca : Option Addr) (cc : Nat) (ra : Option Addr) (rc : Nat) (r : Rt) (w : World) (hl : sizeA r.att ≤ 100000) (h : AtRd w pa ca ra r.att) (hn : hasC r.att.comms 4294901767 = false) (hlb : lastB r = false) :
    Calls Try.prog 9 #[rtV pa pc ca cc ra rc r, .int .i64 2] w fun e w' => MarkIs w w' e (markR r 2) ∧ Below w.heap.size w w' := by
  have HR := hide h
  have HL : Hid (sizeA r.att ≤ 100000 ∧ r.att.comms.length ≤ 100000) := by show _ ∧ _; refine ⟨hl, ?_⟩; unfold sizeA at hl; omega
  clear h hl
  rw [rtV_eq]
  have HN := hide hn
  have HLB := hide hlb
  have HM : Hid (markR r 2 = some { r with stale := 2 }) := by show _ = _; unfold markR markA; rw [if_neg (fun h => by rw [hn] at h; cases h.2), if_neg (fun h => by rw [hlb] at h; cases h.2)]
  clear hn hlb
  go_enter Try.func9, Try.ntmps9
  go_wp2_with fail
  refine kept_box_intro _ _ _ (by rfl) (run_boxR (rtC pa pc ca cc ra rc r) w) ?_
  go_wp2_with fail
  refine kept_alloc_intro _ (run_allocR _) ?_
  obtain ⟨W0, hW0⟩ : ∃ W0, W0 = (w.alloc (.cells (rtC pa pc ca cc ra rc r) 31)).alloc (.cells zR 31) := ⟨_, rfl⟩
  have HS0 : Hid (W0.heap.size = w.heap.size + 2) := by show _ = _; rw [hW0]; simp
  have HB0 : Hid (Below w.heap.size w W0) := by show Below _ _ _; rw [hW0]; exact ((Below.refl _ _).alloc (Nat.le_refl _) _).alloc (by simp) _
  have HX0 : Hid (Bl W0 w.heap.size (rtC pa pc ca cc ra rc r)) := by show Bl _ _ _; rw [hW0]; exact (Bl.new w _).below ((Below.refl _ _).alloc (Nat.le_refl _) _)
  have HY0 : Hid (Bl W0 (w.heap.size + 1) zR) := by show Bl _ _ _; rw [hW0]; have := Bl.new (w.alloc (.cells (rtC pa pc ca cc ra rc r) 31)) zR; simpa using this
  rw [← hW0]
  simp only [World.size_alloc]
  clear hW0
  go_wp2_with fail
  refine region_mix (fun w' => Bl w' w.heap.size (rtC pa pc ca cc ra rc r)) (fun k => k == 5 || k == 6 || k == 7) (by kernel_rfl) (by kernel_rfl) (by kernel_rfl) (HX0.out.below (Below.refl _ _).drew) ?_
  refine mix_q (by rfl) (by rfl) (fun w9 h9 => (by go_simp; first | done | rfl)) (by go_simp; first | done | rfl) ?_
  refine mix_q (by rfl) (by rfl) (fun w9 h9 => (by go_simp; first | done | rfl)) (by go_simp; first | done | rfl) ?_
  refine mix_q (by rfl) (by rfl) (fun w9 h9 => (by go_simp; first | done | rfl)) (by go_simp; first | done | rfl) ?_
  refine mix_q (by rfl) (by rfl) (fun w9 h9 => (by go_simp; first | done | rfl)) (by go_simp; first | done | rfl) ?_
  refine mix_q (by rfl) (by rfl) (fun w9 h9 => exec_loadA (by rfl) h9) (by go_simp; first | done | rfl) ?_
  refine mix_l (by rfl) (by rfl) (by rfl) ?_
  go_simp
  refine (holdsr_any 4294901767 _).mono ?_
  rintro e w1 ⟨rfl, rfl⟩
  refine ⟨HX0.out.below ((Below.refl _ _).drew.alloc (Nat.le_refl _) _), ?_⟩
  refine mix_l (by rfl) (by rfl) (by rfl) ?_
  go_simp
  refine ⟨HX0.out.below (((Below.refl _ _).drew.alloc (Nat.le_refl _) _).alloc (by simp) _), ?_⟩
  refine mix_l (by rfl) (by rfl) (by rfl) ?_
  go_simp
  have hb3 : ∀ p q, Below w.heap.size w ((W0.drew.alloc p).alloc q) := fun p q => (HB0.out.drew.alloc HB0.out.size _).alloc (by have := HB0.out.size; simp; omega) _
  refine (meets_one (v := .func (.func 29) #[] #[.pointer (some ⟨W0.heap.size, 0, none⟩)]) (by simp [go_sem]) (rule_holds (X := W0.heap.size) (x := 4294901767) HL.out.2 (HR.out.comms.below (hb3 _ _)) (by simp [go_sem]))).mono ?_
  rw [HN.out]
  rintro e w1 ⟨rfl, hb4⟩
  have hb5 : Below W0.heap.size W0 w1 := (((Below.refl _ _).drew.alloc (Nat.le_refl _) _).alloc (by simp) _).trans (hb4.mono (by simp <;> omega))
  refine ⟨HX0.out.below hb5, ?_⟩
  refine mix_q (by rfl) (by rfl) (fun w9 h9 => (by go_simp; first | done | rfl)) (by go_simp; first | done | rfl) ?_
  refine ⟨fun _ h => (by cases h), ?_⟩
  have HB1 : Hid (Below w.heap.size w w1) := HB0.out.trans (hb5.mono HB0.out.size)
  have HX1 := hide (HX0.out.below hb5)
  have HY1 := hide (HY0.out.below hb5)
  have hs1 : w.heap.size + 2 ≤ w1.heap.size := by have := hb5.size; have := HS0.out; omega
  clear hb3 hb4 hb5 HB0 HX0 HY0 HS0
  go_wp2_with fail
  refine kept_load_intro _ _ _ (by rfl) (run_loadR HX1.out (RC.rt _ _ _ _ _ _ _)) ?_
  go_wp2_with fail
  refine (own_any pa pc ca cc ra rc r w1 HL.out.1 (HR.out.below HB1.out)).mono ?_
  rintro e w2 ⟨⟨pa9, pc9, ca9, cc9, ra9, rc9, rfl, ho2⟩, hb2⟩
  have HB2 : Hid (Below w.heap.size w w2) := HB1.out.trans (hb2.mono (by omega))
  have HX2 := hide (HX1.out.below hb2)
  have HY2 := hide (HY1.out.below hb2)
  have hs2 : w.heap.size + 2 ≤ w2.heap.size := by have := hb2.size; omega
  have HO2 : Hid (OwnAt w2 (w.heap.size + 2) pa9 pc9 ca9 cc9 ra9 rc9 r.att) := ho2.base hs1
  clear ho2 hb2 HB1 HX1 HY1 hs1
  go_wp2_with fail
  refine kept_alloc_intro _ (run_allocR _) ?_
  go_wp2_with fail
  refine kept_store_intro _ _ _ (.agg (rtC pa9 pc9 ca9 cc9 ra9 rc9 r)) (by rfl) (by rfl) (run_storeR (Bl.new w2 zR) rfl (RC.rt _ _ _ _ _ _ _)) ?_
  have hb3 : Below w2.heap.size w2 ((w2.alloc (.cells zR 31)).setCells w2.heap.size 0 (rtC pa9 pc9 ca9 cc9 ra9 rc9 r).toList) := below_puts ((Below.refl _ _).alloc (Nat.le_refl _) _) (Nat.le_refl _) _
  have HZ3 : Hid (Bl ((w2.alloc (.cells zR 31)).setCells w2.heap.size 0 (rtC pa9 pc9 ca9 cc9 ra9 rc9 r).toList) w2.heap.size (rtC pa9 pc9 ca9 cc9 ra9 rc9 r)) := (Bl.new w2 zR).put rfl
  have HS3 : Hid (((w2.alloc (.cells zR 31)).setCells w2.heap.size 0 (rtC pa9 pc9 ca9 cc9 ra9 rc9 r).toList).heap.size = w2.heap.size + 1) := by show _ = _; rw [size_puts]; simp
  obtain ⟨Y, hY⟩ : ∃ Y, Y = w2.heap.size := ⟨_, rfl⟩
  rw [← hY] at hb3 HZ3 HS3 ⊢
  generalize (w2.alloc (.cells zR 31)).setCells Y 0 (rtC pa9 pc9 ca9 cc9 ra9 rc9 r).toList = w3 at *
  have HB3 : Hid (Below w.heap.size w w3) := HB2.out.trans (hb3.mono (by omega))
  have HX3 : Hid (Bl w3 w.heap.size (rtC pa pc ca cc ra rc r)) := by rw [hY] at hb3; exact HX2.out.below hb3
  have HY3 : Hid (Bl w3 (w.heap.size + 1) zR) := by rw [hY] at hb3; exact HY2.out.below hb3
  have HO3 : Hid (OwnAt w3 (w.heap.size + 2) pa9 pc9 ca9 cc9 ra9 rc9 r.att) := by rw [hY] at hb3; exact HO2.out.later hb3
  have hYs : w.heap.size + 2 ≤ Y := by omega
  have hOY : Hid (∀ w', Keeps (fun k => k = Y) w3 w' → OwnAt w' (w.heap.size + 2) pa9 pc9 ca9 cc9 ra9 rc9 r.att) := fun w' hk => by
    have hbk : Below w2.heap.size w2 w' := (by rw [← hY]; exact hb3.trans (hk.below Y (by have := HS3.out; omega) (fun b e => by omega)))
    exact HO2.out.later hbk
  clear hb3 HB2 HX2 HY2 HO2 hs2 hY
  have c10 : w3.cell? ⟨Y, 10, none⟩ = some (.int .i64 r.stale) := HZ3.out.cell 10 rfl
  have f10 := HZ3.out.frozen 10
  have z3 : Y < w3.heap.size := by have := HS3.out; omega
  go_wp2_with fail
  have hk4 := (Keeps.refl (fun k => k = Y) w3).setCell Y 10 (.int .i64 2) (.inl rfl)
  have HO4 := hide (hOY.out _ hk4)
  have HZ4 : Hid (Bl (w3.setCell ⟨Y, 10, none⟩ (.int .i64 2)) Y (rtC pa9 pc9 ca9 cc9 ra9 rc9 { r with stale := 2 })) := HZ3.out.set 10 (.int .i64 2)
  have HX4 := hide (HX3.out.other 10 (.int .i64 2) (Y := Y) (by omega))
  have HY4 := hide (HY3.out.other 10 (.int .i64 2) (Y := Y) (by omega))
  have HB4 : Hid (Below w.heap.size w (w3.setCell ⟨Y, 10, none⟩ (.int .i64 2))) := HB3.out.setCell (by show w.heap.size ≤ Y; omega) _
  have HS4 : Hid ((w3.setCell ⟨Y, 10, none⟩ (.int .i64 2)).heap.size = Y + 1) := by show _ = _; simpa using HS3.out
  clear hk4
  generalize w3.setCell ⟨Y, 10, none⟩ (.int .i64 2) = w4 at *
  clear c10 f10 z3 HB3 HX3 HY3 HO3 hOY HZ3 HS3
  refine region_mix (fun w' => Bl w' w.heap.size (rtC pa pc ca cc ra rc r)) (fun k => k == 5 || k == 6 || k == 7 || k == 8 || k == 9) (by kernel_rfl) (by kernel_rfl) (by kernel_rfl) (HX4.out.below (Below.refl _ _).drew) ?_
  refine mix_q (by rfl) (by rfl) (fun w9 h9 => (by go_simp; first | done | rfl)) (by go_simp; first | done | rfl) ?_
  refine mix_q (by rfl) (by rfl) (fun w9 h9 => (by go_simp; first | done | rfl)) (by go_simp; first | done | rfl) ?_
  refine mix_q (by rfl) (by rfl) (fun w9 h9 => (by go_simp; first | done | rfl)) (by go_simp; first | done | rfl) ?_
  refine mix_q (by rfl) (by rfl) (fun w9 h9 => (by go_simp; first | done | rfl)) (by go_simp; first | done | rfl) ?_
  refine mix_q (by rfl) (by rfl) (fun w9 h9 => exec_loadA (by rfl) h9) (by go_simp; first | done | rfl) ?_
  refine mix_l (by rfl) (by rfl) (by rfl) ?_
  go_simp
  refine (holdsr_any 4294901766 _).mono ?_
  rintro e w5 ⟨rfl, rfl⟩
  refine ⟨HX4.out.below ((Below.refl _ _).drew.alloc (Nat.le_refl _) _), ?_⟩
  refine mix_l (by rfl) (by rfl) (by rfl) ?_
  go_simp
  refine (not_any _ _ _).mono ?_
  rintro e w5 ⟨rfl, rfl⟩
  refine ⟨HX4.out.below (((Below.refl _ _).drew.alloc (Nat.le_refl _) _).alloc (by simp) _), ?_⟩
  refine mix_l (by rfl) (by rfl) (by rfl) ?_
  go_simp
  refine (fewer_any 32 _).mono ?_
  rintro e w5 ⟨rfl, rfl⟩
  refine ⟨HX4.out.below ((((Below.refl _ _).drew.alloc (Nat.le_refl _) _).alloc (by simp) _).alloc (by simp <;> omega) _), ?_⟩
  refine mix_l (by rfl) (by rfl) (by rfl) ?_
  go_simp
  refine ⟨HX4.out.below (((((Below.refl _ _).drew.alloc (Nat.le_refl _) _).alloc (by simp) _).alloc (by simp <;> omega) _).alloc (by simp <;> omega) _), ?_⟩
  refine mix_l (by rfl) (by rfl) (by rfl) ?_
  go_simp
  have hb8 : ∀ p q s t, Below w4.heap.size w4 ((((w4.drew.alloc p).alloc q).alloc s).alloc t) := fun p q s t => ((((Below.refl _ _).drew.alloc (Nat.le_refl _) _).alloc (by simp) _).alloc (by simp <;> omega) _).alloc (by simp <;> omega) _
  refine (meets_two (v := .func (.func 31) #[] #[.pointer (some ⟨w4.heap.size + 1, 0, none⟩)]) (v' := .func (.func 32) #[] #[.pointer (some ⟨w4.heap.size + 1 + 1, 0, none⟩)]) (by simp [go_sem]) (rule_not (v := .func (.func 29) #[] #[.pointer (some ⟨w4.heap.size, 0, none⟩)]) (rule_holds (X := w4.heap.size) (x := 4294901766) HL.out.2 (HR.out.comms.below (HB4.out.trans ((hb8 _ _ _ _).mono HB4.out.size))) (by simp [go_sem])) (by simp [go_sem])) (by simp [go_sem]) (rule_fewer (x := 32) (by simp [go_sem]))).mono ?_
  have HLB2 : Hid ((!(hasC r.att.comms 4294901766) && decide ((r.att.comms.length : Int) < 32)) = false) := HLB.out
  rw [HLB2.out]
  rintro e w5 ⟨rfl, hb9⟩
  have hb5 : Below w4.heap.size w4 w5 := (hb8 _ _ _ _).trans (hb9.mono (by simp <;> omega))
  refine ⟨HX4.out.below hb5, ?_⟩
  refine mix_q (by rfl) (by rfl) (fun w9 h9 => (by go_simp; first | done | rfl)) (by go_simp; first | done | rfl) ?_
  refine ⟨fun _ h => (by cases h), ?_⟩
  clear hb8 hb9 HLB2
  have HB5 : Hid (Below w.heap.size w w5) := HB4.out.trans (hb5.mono HB4.out.size)
  have HY5 := hide (HY4.out.below hb5)
  have HZ5 := hide (HZ4.out.below hb5)
  have HO5 := hide (HO4.out.later hb5)
  have hs5 : Y + 1 ≤ w5.heap.size := by have := hb5.size; have := HS4.out; omega
  clear hb5 HB4 HX4 HY4 HZ4 HO4 HS4
  go_wp2_with fail
  refine kept_load_intro _ _ _ (by rfl) (run_loadR HZ5.out (RC.rt _ _ _ _ _ _ _)) ?_
  go_wp2_with fail
  refine kept_store_intro _ _ _ _ (by rfl) (by rfl) (run_storeR HY5.out rfl (RC.rt _ _ _ _ _ _ _)) ?_
  have HY9 : Hid (Bl (w5.setCells (w.heap.size + 1) 0 (rtC pa9 pc9 ca9 cc9 ra9 rc9 { r with stale := 2 }).toList) (w.heap.size + 1) (rtC pa9 pc9 ca9 cc9 ra9 rc9 { r with stale := 2 })) := HY5.out.put rfl
  have hkk := (Keeps.refl (fun k => k = w.heap.size + 1) w5).setCells (w.heap.size + 1) 0 (rtC pa9 pc9 ca9 cc9 ra9 rc9 { r with stale := 2 }).toList (.inl rfl)
  have HA9 := hide ((HO5.out.keeps hkk (fun b h1 h2 => by omega)).base (B' := w.heap.size) (by omega))
  have HB9 := hide (below_puts HB5.out (X := w.heap.size + 1) (by omega) (rtC pa9 pc9 ca9 cc9 ra9 rc9 { r with stale := 2 }).toList)
  clear hkk HZ5 HY5 HB5 HO5
  generalize w5.setCells (w.heap.size + 1) 0 (rtC pa9 pc9 ca9 cc9 ra9 rc9 { r with stale := 2 }).toList = w9 at *
  go_wp2_with fail
  rw [HM.out]
  refine bodyPost_ret (v := .tuple #[.agg (rtC pa9 pc9 ca9 cc9 ra9 rc9 { r with stale := 2 }), .bool true]) (res_two Try.results9 _ w9 (w.heap.size + 1) _ _ rfl rfl HY9.out (RC.rt _ _ _ _ _ _ _)) rfl ⟨⟨pa9, pc9, ca9, cc9, ra9, rc9, rfl, HA9.out⟩, HB9.out⟩
set_option maxHeartbeats 3200000 in
theorem mark_last (pa : Option Addr) (pc : Nat) (ca : Option Addr) (cc : Nat) (ra : Option Addr) (rc : Nat) (r : Rt) (w : World) (hl : sizeA r.att ≤ 100000) (h : AtRd w pa ca ra r.att) (hn : hasC r.att.comms 4294901767 = false) (hlb : lastB r = true) :
    Calls Try.prog 9 #[rtV pa pc ca cc ra rc r, .int .i64 2] w fun e w' => MarkIs w w' e (markR r 2) ∧ Below w.heap.size w w' := by
  have HR := hide h
  have HL : Hid (sizeA r.att ≤ 100000 ∧ r.att.comms.length ≤ 100000) := by show _ ∧ _; refine ⟨hl, ?_⟩; unfold sizeA at hl; omega
  clear h hl
  rw [rtV_eq]
  have HN := hide hn
  have HLB := hide hlb
  have HM : Hid (markR r 2 = some { r with att := { r.att with comms := r.att.comms ++ [4294901766] }, stale := 2 }) := by show _ = _; unfold markR markA; rw [if_neg (fun h => by rw [hn] at h; cases h.2), if_pos ⟨rfl, hlb⟩]
  clear hn hlb
  go_enter Try.func9, Try.ntmps9
  go_wp2_with fail
  refine kept_box_intro _ _ _ (by rfl) (run_boxR (rtC pa pc ca cc ra rc r) w) ?_
  go_wp2_with fail
  refine kept_alloc_intro _ (run_allocR _) ?_
  obtain ⟨W0, hW0⟩ : ∃ W0, W0 = (w.alloc (.cells (rtC pa pc ca cc ra rc r) 31)).alloc (.cells zR 31) := ⟨_, rfl⟩
  have HS0 : Hid (W0.heap.size = w.heap.size + 2) := by show _ = _; rw [hW0]; simp
  have HB0 : Hid (Below w.heap.size w W0) := by show Below _ _ _; rw [hW0]; exact ((Below.refl _ _).alloc (Nat.le_refl _) _).alloc (by simp) _
  have HX0 : Hid (Bl W0 w.heap.size (rtC pa pc ca cc ra rc r)) := by show Bl _ _ _; rw [hW0]; exact (Bl.new w _).below ((Below.refl _ _).alloc (Nat.le_refl _) _)
  have HY0 : Hid (Bl W0 (w.heap.size + 1) zR) := by show Bl _ _ _; rw [hW0]; have := Bl.new (w.alloc (.cells (rtC pa pc ca cc ra rc r) 31)) zR; simpa using this
  rw [← hW0]
  simp only [World.size_alloc]
  clear hW0
  go_wp2_with fail
  refine region_mix (fun w' => Bl w' w.heap.size (rtC pa pc ca cc ra rc r)) (fun k => k == 5 || k == 6 || k == 7) (by kernel_rfl) (by kernel_rfl) (by kernel_rfl) (HX0.out.below (Below.refl _ _).drew) ?_
  refine mix_q (by rfl) (by rfl) (fun w9 h9 => (by go_simp; first | done | rfl)) (by go_simp; first | done | rfl) ?_
  refine mix_q (by rfl) (by rfl) (fun w9 h9 => (by go_simp; first | done | rfl)) (by go_simp; first | done | rfl) ?_
  refine mix_q (by rfl) (by rfl) (fun w9 h9 => (by go_simp; first | done | rfl)) (by go_simp; first | done | rfl) ?_
  refine mix_q (by rfl) (by rfl) (fun w9 h9 => (by go_simp; first | done | rfl)) (by go_simp; first | done | rfl) ?_
  refine mix_q (by rfl) (by rfl) (fun w9 h9 => exec_loadA (by rfl) h9) (by go_simp; first | done | rfl) ?_
  refine mix_l (by rfl) (by rfl) (by rfl) ?_
  go_simp
  refine (holdsr_any 4294901767 _).mono ?_
  rintro e w1 ⟨rfl, rfl⟩
  refine ⟨HX0.out.below ((Below.refl _ _).drew.alloc (Nat.le_refl _) _), ?_⟩
  refine mix_l (by rfl) (by rfl) (by rfl) ?_
  go_simp
  refine ⟨HX0.out.below (((Below.refl _ _).drew.alloc (Nat.le_refl _) _).alloc (by simp) _), ?_⟩
  refine mix_l (by rfl) (by rfl) (by rfl) ?_
  go_simp
  have hb3 : ∀ p q, Below w.heap.size w ((W0.drew.alloc p).alloc q) := fun p q => (HB0.out.drew.alloc HB0.out.size _).alloc (by have := HB0.out.size; simp; omega) _
  refine (meets_one (v := .func (.func 29) #[] #[.pointer (some ⟨W0.heap.size, 0, none⟩)]) (by simp [go_sem]) (rule_holds (X := W0.heap.size) (x := 4294901767) HL.out.2 (HR.out.comms.below (hb3 _ _)) (by simp [go_sem]))).mono ?_
  rw [HN.out]
  rintro e w1 ⟨rfl, hb4⟩
  have hb5 : Below W0.heap.size W0 w1 := (((Below.refl _ _).drew.alloc (Nat.le_refl _) _).alloc (by simp) _).trans (hb4.mono (by simp <;> omega))
  refine ⟨HX0.out.below hb5, ?_⟩
  refine mix_q (by rfl) (by rfl) (fun w9 h9 => (by go_simp; first | done | rfl)) (by go_simp; first | done | rfl) ?_
  refine ⟨fun _ h => (by cases h), ?_⟩
  have HB1 : Hid (Below w.heap.size w w1) := HB0.out.trans (hb5.mono HB0.out.size)
  have HX1 := hide (HX0.out.below hb5)
  have HY1 := hide (HY0.out.below hb5)
  have hs1 : w.heap.size + 2 ≤ w1.heap.size := by have := hb5.size; have := HS0.out; omega
  clear hb3 hb4 hb5 HB0 HX0 HY0 HS0
  go_wp2_with fail
  refine kept_load_intro _ _ _ (by rfl) (run_loadR HX1.out (RC.rt _ _ _ _ _ _ _)) ?_
  go_wp2_with fail
  refine (own_any pa pc ca cc ra rc r w1 HL.out.1 (HR.out.below HB1.out)).mono ?_
  rintro e w2 ⟨⟨pa9, pc9, ca9, cc9, ra9, rc9, rfl, ho2⟩, hb2⟩
  have HB2 : Hid (Below w.heap.size w w2) := HB1.out.trans (hb2.mono (by omega))
  have HX2 := hide (HX1.out.below hb2)
  have HY2 := hide (HY1.out.below hb2)
  have hs2 : w.heap.size + 2 ≤ w2.heap.size := by have := hb2.size; omega
  have HO2 : Hid (OwnAt w2 (w.heap.size + 2) pa9 pc9 ca9 cc9 ra9 rc9 r.att) := ho2.base hs1
  clear ho2 hb2 HB1 HX1 HY1 hs1
  go_wp2_with fail
  refine kept_alloc_intro _ (run_allocR _) ?_
  go_wp2_with fail
  refine kept_store_intro _ _ _ (.agg (rtC pa9 pc9 ca9 cc9 ra9 rc9 r)) (by rfl) (by rfl) (run_storeR (Bl.new w2 zR) rfl (RC.rt _ _ _ _ _ _ _)) ?_
  have hb3 : Below w2.heap.size w2 ((w2.alloc (.cells zR 31)).setCells w2.heap.size 0 (rtC pa9 pc9 ca9 cc9 ra9 rc9 r).toList) := below_puts ((Below.refl _ _).alloc (Nat.le_refl _) _) (Nat.le_refl _) _
  have HZ3 : Hid (Bl ((w2.alloc (.cells zR 31)).setCells w2.heap.size 0 (rtC pa9 pc9 ca9 cc9 ra9 rc9 r).toList) w2.heap.size (rtC pa9 pc9 ca9 cc9 ra9 rc9 r)) := (Bl.new w2 zR).put rfl
  have HS3 : Hid (((w2.alloc (.cells zR 31)).setCells w2.heap.size 0 (rtC pa9 pc9 ca9 cc9 ra9 rc9 r).toList).heap.size = w2.heap.size + 1) := by show _ = _; rw [size_puts]; simp
  obtain ⟨Y, hY⟩ : ∃ Y, Y = w2.heap.size := ⟨_, rfl⟩
  rw [← hY] at hb3 HZ3 HS3 ⊢
  generalize (w2.alloc (.cells zR 31)).setCells Y 0 (rtC pa9 pc9 ca9 cc9 ra9 rc9 r).toList = w3 at *
  have HB3 : Hid (Below w.heap.size w w3) := HB2.out.trans (hb3.mono (by omega))
  have HX3 : Hid (Bl w3 w.heap.size (rtC pa pc ca cc ra rc r)) := by rw [hY] at hb3; exact HX2.out.below hb3
  have HY3 : Hid (Bl w3 (w.heap.size + 1) zR) := by rw [hY] at hb3; exact HY2.out.below hb3
  have HO3 : Hid (OwnAt w3 (w.heap.size + 2) pa9 pc9 ca9 cc9 ra9 rc9 r.att) := by rw [hY] at hb3; exact HO2.out.later hb3
  have hYs : w.heap.size + 2 ≤ Y := by omega
  have hOY : Hid (∀ w', Keeps (fun k => k = Y) w3 w' → OwnAt w' (w.heap.size + 2) pa9 pc9 ca9 cc9 ra9 rc9 r.att) := fun w' hk => by
    have hbk : Below w2.heap.size w2 w' := (by rw [← hY]; exact hb3.trans (hk.below Y (by have := HS3.out; omega) (fun b e => by omega)))
    exact HO2.out.later hbk
  clear hb3 HB2 HX2 HY2 HO2 hs2 hY
  have c10 : w3.cell? ⟨Y, 10, none⟩ = some (.int .i64 r.stale) := HZ3.out.cell 10 rfl
  have f10 := HZ3.out.frozen 10
  have z3 : Y < w3.heap.size := by have := HS3.out; omega
  go_wp2_with fail
  have hk4 := (Keeps.refl (fun k => k = Y) w3).setCell Y 10 (.int .i64 2) (.inl rfl)
  have HO4 := hide (hOY.out _ hk4)
  have HZ4 : Hid (Bl (w3.setCell ⟨Y, 10, none⟩ (.int .i64 2)) Y (rtC pa9 pc9 ca9 cc9 ra9 rc9 { r with stale := 2 })) := HZ3.out.set 10 (.int .i64 2)
  have HX4 := hide (HX3.out.other 10 (.int .i64 2) (Y := Y) (by omega))
  have HY4 := hide (HY3.out.other 10 (.int .i64 2) (Y := Y) (by omega))
  have HB4 : Hid (Below w.heap.size w (w3.setCell ⟨Y, 10, none⟩ (.int .i64 2))) := HB3.out.setCell (by show w.heap.size ≤ Y; omega) _
  have HS4 : Hid ((w3.setCell ⟨Y, 10, none⟩ (.int .i64 2)).heap.size = Y + 1) := by show _ = _; simpa using HS3.out
  clear hk4
  generalize w3.setCell ⟨Y, 10, none⟩ (.int .i64 2) = w4 at *
  clear c10 f10 z3 HB3 HX3 HY3 HO3 hOY HZ3 HS3
  refine region_mix (fun w' => Bl w' w.heap.size (rtC pa pc ca cc ra rc r)) (fun k => k == 5 || k == 6 || k == 7 || k == 8 || k == 9) (by kernel_rfl) (by kernel_rfl) (by kernel_rfl) (HX4.out.below (Below.refl _ _).drew) ?_
  refine mix_q (by rfl) (by rfl) (fun w9 h9 => (by go_simp; first | done | rfl)) (by go_simp; first | done | rfl) ?_
  refine mix_q (by rfl) (by rfl) (fun w9 h9 => (by go_simp; first | done | rfl)) (by go_simp; first | done | rfl) ?_
  refine mix_q (by rfl) (by rfl) (fun w9 h9 => (by go_simp; first | done | rfl)) (by go_simp; first | done | rfl) ?_
  refine mix_q (by rfl) (by rfl) (fun w9 h9 => (by go_simp; first | done | rfl)) (by go_simp; first | done | rfl) ?_
  refine mix_q (by rfl) (by rfl) (fun w9 h9 => exec_loadA (by rfl) h9) (by go_simp; first | done | rfl) ?_
  refine mix_l (by rfl) (by rfl) (by rfl) ?_
  go_simp
  refine (holdsr_any 4294901766 _).mono ?_
  rintro e w5 ⟨rfl, rfl⟩
  refine ⟨HX4.out.below ((Below.refl _ _).drew.alloc (Nat.le_refl _) _), ?_⟩
  refine mix_l (by rfl) (by rfl) (by rfl) ?_
  go_simp
  refine (not_any _ _ _).mono ?_
  rintro e w5 ⟨rfl, rfl⟩
  refine ⟨HX4.out.below (((Below.refl _ _).drew.alloc (Nat.le_refl _) _).alloc (by simp) _), ?_⟩
  refine mix_l (by rfl) (by rfl) (by rfl) ?_
  go_simp
  refine (fewer_any 32 _).mono ?_
  rintro e w5 ⟨rfl, rfl⟩
  refine ⟨HX4.out.below ((((Below.refl _ _).drew.alloc (Nat.le_refl _) _).alloc (by simp) _).alloc (by simp <;> omega) _), ?_⟩
  refine mix_l (by rfl) (by rfl) (by rfl) ?_
  go_simp
  refine ⟨HX4.out.below (((((Below.refl _ _).drew.alloc (Nat.le_refl _) _).alloc (by simp) _).alloc (by simp <;> omega) _).alloc (by simp <;> omega) _), ?_⟩
  refine mix_l (by rfl) (by rfl) (by rfl) ?_
  go_simp
  have hb8 : ∀ p q s t, Below w4.heap.size w4 ((((w4.drew.alloc p).alloc q).alloc s).alloc t) := fun p q s t => ((((Below.refl _ _).drew.alloc (Nat.le_refl _) _).alloc (by simp) _).alloc (by simp <;> omega) _).alloc (by simp <;> omega) _
  refine (meets_two (v := .func (.func 31) #[] #[.pointer (some ⟨w4.heap.size + 1, 0, none⟩)]) (v' := .func (.func 32) #[] #[.pointer (some ⟨w4.heap.size + 1 + 1, 0, none⟩)]) (by simp [go_sem]) (rule_not (v := .func (.func 29) #[] #[.pointer (some ⟨w4.heap.size, 0, none⟩)]) (rule_holds (X := w4.heap.size) (x := 4294901766) HL.out.2 (HR.out.comms.below (HB4.out.trans ((hb8 _ _ _ _).mono HB4.out.size))) (by simp [go_sem])) (by simp [go_sem])) (by simp [go_sem]) (rule_fewer (x := 32) (by simp [go_sem]))).mono ?_
  have HLB2 : Hid ((!(hasC r.att.comms 4294901766) && decide ((r.att.comms.length : Int) < 32)) = true) := HLB.out
  rw [HLB2.out]
  rintro e w5 ⟨rfl, hb9⟩
  have hb5 : Below w4.heap.size w4 w5 := (hb8 _ _ _ _).trans (hb9.mono (by simp <;> omega))
  refine ⟨HX4.out.below hb5, ?_⟩
  refine mix_q (by rfl) (by rfl) (fun w9 h9 => (by go_simp; first | done | rfl)) (by go_simp; first | done | rfl) ?_
  refine ⟨fun _ h => (by cases h), ?_⟩
  clear hb8 hb9 HLB2
  have HB5 : Hid (Below w.heap.size w w5) := HB4.out.trans (hb5.mono HB4.out.size)
  have HY5 := hide (HY4.out.below hb5)
  have HZ5 := hide (HZ4.out.below hb5)
  have HO5 := hide (HO4.out.later hb5)
  have hs5 : Y + 1 ≤ w5.heap.size := by have := hb5.size; have := HS4.out; omega
  clear hb5 HB4 HX4 HY4 HZ4 HO4 HS4
  obtain ⟨ca8, cc8, w6, hr6, ho6, hb6, hbl6⟩ := HO5.out.more (by omega) HL.out.2 4294901766
  have HR6 := hide hr6
  have HO6 := hide ho6
  have HB6 : Hid (Below w.heap.size w w6) := HB5.out.trans (hb6.mono (by omega))
  have HY6 := hide (hbl6 _ _ HY5.out)
  have HZ6 := hide (hbl6 _ _ HZ5.out)
  have z6 : Y < w6.heap.size := HZ6.out.lt
  have c8 : w5.cell? ⟨Y, 8, none⟩ = some (.slice ca9 r.att.comms.length cc9) := HZ5.out.cell 8 rfl
  have z5 : Y < w5.heap.size := HZ5.out.lt
  clear hr6 ho6 hb6 hbl6 HY5 HZ5 HO5 HB5
  go_wp2_with fail
  refine kept_app_intro _ _ _ _ _ (.slice ca8 (r.att.comms.length + 1) cc8) (w' := w6) (by rfl) (by rfl) (by exact HR6.out) ?_
  clear c8 z5 HR6
  have c8 : w6.cell? ⟨Y, 8, none⟩ = some (.slice ca9 r.att.comms.length cc9) := HZ6.out.cell 8 rfl
  have f8 := HZ6.out.frozen 8
  go_wp2_with fail
  have HZ7 : Hid (Bl (w6.setCell ⟨Y, 8, none⟩ (.slice ca8 (r.att.comms.length + 1) cc8)) Y (rtC pa9 pc9 ca8 cc8 ra9 rc9 { r with att := { r.att with comms := r.att.comms ++ [4294901766] }, stale := 2 })) := by
    have h9 := HZ6.out.set 8 (.slice ca8 (r.att.comms.length + 1) cc8)
    have e9 : ((rtC pa9 pc9 ca9 cc9 ra9 rc9 { r with stale := 2 }).setIfInBounds 8 (.slice ca8 (r.att.comms.length + 1) cc8)) = rtC pa9 pc9 ca8 cc8 ra9 rc9 { r with att := { r.att with comms := r.att.comms ++ [4294901766] }, stale := 2 } := by
      unfold rtC
      simp [List.length_append]
    rw [e9] at h9
    exact h9
  have HY7 := hide (HY6.out.other 8 (.slice ca8 (r.att.comms.length + 1) cc8) (Y := Y) (by omega))
  have HB7 : Hid (Below w.heap.size w (w6.setCell ⟨Y, 8, none⟩ (.slice ca8 (r.att.comms.length + 1) cc8))) := HB6.out.setCell (by show w.heap.size ≤ Y; omega) _
  have HO7 : Hid (OwnAt (w6.setCell ⟨Y, 8, none⟩ (.slice ca8 (r.att.comms.length + 1) cc8)) (w.heap.size + 2) pa9 pc9 ca8 cc8 ra9 rc9 { r.att with comms := r.att.comms ++ [4294901766] }) := HO6.out.stored HZ6.out 8 _
  generalize w6.setCell ⟨Y, 8, none⟩ (.slice ca8 (r.att.comms.length + 1) cc8) = w7 at *
  clear c8 f8 z6 HZ6 HY6 HB6 HO6
  go_wp2_with fail
  refine kept_load_intro _ _ _ (by rfl) (run_loadR HZ7.out (RC.rt _ _ _ _ _ _ _)) ?_
  go_wp2_with fail
  refine kept_store_intro _ _ _ _ (by rfl) (by rfl) (run_storeR HY7.out rfl (RC.rt _ _ _ _ _ _ _)) ?_
  have HY9 : Hid (Bl (w7.setCells (w.heap.size + 1) 0 (rtC pa9 pc9 ca8 cc8 ra9 rc9 { r with att := { r.att with comms := r.att.comms ++ [4294901766] }, stale := 2 }).toList) (w.heap.size + 1) (rtC pa9 pc9 ca8 cc8 ra9 rc9 { r with att := { r.att with comms := r.att.comms ++ [4294901766] }, stale := 2 })) := HY7.out.put rfl
  have hkk := (Keeps.refl (fun k => k = w.heap.size + 1) w7).setCells (w.heap.size + 1) 0 (rtC pa9 pc9 ca8 cc8 ra9 rc9 { r with att := { r.att with comms := r.att.comms ++ [4294901766] }, stale := 2 }).toList (.inl rfl)
  have HA9 := hide ((HO7.out.keeps hkk (fun b h1 h2 => by omega)).base (B' := w.heap.size) (by omega))
  have HB9 := hide (below_puts HB7.out (X := w.heap.size + 1) (by omega) (rtC pa9 pc9 ca8 cc8 ra9 rc9 { r with att := { r.att with comms := r.att.comms ++ [4294901766] }, stale := 2 }).toList)
  clear hkk HZ7 HY7 HB7 HO7
  generalize w7.setCells (w.heap.size + 1) 0 (rtC pa9 pc9 ca8 cc8 ra9 rc9 { r with att := { r.att with comms := r.att.comms ++ [4294901766] }, stale := 2 }).toList = w9 at *
  go_wp2_with fail
  rw [HM.out]
  refine bodyPost_ret (v := .tuple #[.agg (rtC pa9 pc9 ca8 cc8 ra9 rc9 { r with att := { r.att with comms := r.att.comms ++ [4294901766] }, stale := 2 }), .bool true]) (res_two Try.results9 _ w9 (w.heap.size + 1) _ _ rfl rfl HY9.out (RC.rt _ _ _ _ _ _ _)) rfl ⟨⟨pa9, pc9, ca8, cc8, ra9, rc9, rfl, HA9.out⟩, HB9.out⟩
end
theorem mark_any (pa : Option Addr) (pc : Nat) (ca : Option Addr) (cc : Nat) (ra : Option Addr) (rc : Nat) (r : Rt) (st : Int) (w : World) (hl : sizeA r.att ≤ 100000) (h : AtRd w pa ca ra r.att) :
    Calls Try.prog 9 #[rtV pa pc ca cc ra rc r, .int .i64 st] w fun e w' => MarkIs w w' e (markR r st) ∧ Below w.heap.size w w' := by
  by_cases hst : st = 2
  · subst hst
    cases hn : hasC r.att.comms 4294901767 with
    | true => exact mark_none pa pc ca cc ra rc r w hl h hn
    | false =>
      cases hlb : lastB r with
      | true => exact mark_last pa pc ca cc ra rc r w hl h hn hlb
      | false => exact mark_plain pa pc ca cc ra rc r w hl h hn hlb
  · exact mark_other pa pc ca cc ra rc r st w hl h hst
end Go.Proofs.Ytnblkgffgbiemaa
