/- The table's Drop and Get. -/
import Derived.Test.YtjlmkaeepeamkaaAjB
namespace Go.Proofs.Ytjlmkaeepeamkaa
open Go.RowKit
set_option maxRecDepth 100000

abbrev pfV (A : Nat) (L : Int) : Value := .agg #[.int .u32 (A : Int), .int .i64 L]
section
variable {P : Program} {a : Act} {w w' : World} {K : Act → World → Prop} {Q : Exit → Act → World → Prop} {dst : Option Tmp} {ty : TypeId} {pos : String} {after : Array Edge} {gd : Option (Nat × Bool)}
theorem wp_delete {t k : TypeId} (m x : Operand) (mv xv : Value) (hm : a.eval m = mv) (hx : a.eval x = xv) (hr : (Builtin.delete_ #[t, k] ty #[mv, xv]).run P w = .ok (.tuple #[]) w') (h : K (a.put dst (.tuple #[])) w') : Oper.wp P { dst := dst, op := Op.call { callee := Callee.builtin Builtin.delete, args := #[m, x], argTypes := #[t, k] }, type := ty, pos := pos, after := after, guard := gd } a w K Q := by
  unfold Oper.wp
  simp [execOp, resolve, invoke, builtin, hm, hx, hr, Result.andThen]
  exact h
end
section
attribute [local go_sem ↓] keptR_load keptR_store keptR_box keptR_alloc keptR_build
set_option maxHeartbeats 800000 in
theorem drop_nil (A : Nat) (L p : Int) (w : World) : Calls Try.prog 11 #[.pointer none, .int .i64 p, pfV A L] w fun e w' => e = .returned (.bool false) ∧ Below w.heap.size w w' := by
  go_enter Try.func11, Try.ntmps11
  go_wp2
  go_ret
  exact ⟨rfl, (Below.refl _ _).alloc (Nat.le_refl _) _⟩
/-- Is one of them there? -/
def there (A : Nat) (L p : Int) (l : List Rt) : Bool := l.any (fun x => gone A L p x)
theorem Look.there {w : World} {l : List Rt} {A : Nat} {L p : Int} {pa ca ra : Option Addr} {r : Rt} {z : Bool} (h : Look w l A L p pa ca ra r z) : z = there A L p l := by
  unfold Go.Proofs.Ytjlmkaeepeamkaa.there
  rcases h.2.2 with ⟨rfl, h1, h2⟩ | ⟨rfl, _, h2⟩
  · exact (List.any_eq_true.2 ⟨r, h1, h2⟩).symm
  · symm; rw [List.any_eq_false]; intro x hx; rw [h2 x hx]; simp
set_option maxHeartbeats 3200000 in
theorem drop_any (b : Nat) (l : List Rt) (A : Nat) (L p : Int) (w : World) (h : Tab w b l) :
    Calls Try.prog 11 #[tabV b, .int .i64 p, pfV A L] w fun e w' => e = .returned (.bool (there A L p l)) ∧ Tab w' b (dropL A L p l) ∧ Keeps (fun x => x = b) w w' := by
  have HT := hide h
  have hz := h.lt
  clear h
  go_enter Try.func11, Try.ntmps11
  go_wp2_with fail
  have HB1 : Hid (Below w.heap.size w (w.alloc (.cells #[.int .u32 (A : Int), .int .i64 L] 29))) := (Below.refl _ _).alloc (Nat.le_refl _) _
  have HX1 : Hid ((w.alloc (.cells #[.int .u32 (A : Int), .int .i64 L] 29)).cell? ⟨w.heap.size, 0, none⟩ = some (.int .u32 (A : Int)) ∧ (w.alloc (.cells #[.int .u32 (A : Int), .int .i64 L] 29)).cell? ⟨w.heap.size, 1, none⟩ = some (.int .i64 L)) := ⟨by simp [go_sem], by simp [go_sem]⟩
  have hs1 : w.heap.size < (w.alloc (.cells #[.int .u32 (A : Int), .int .i64 L] 29)).heap.size := by simp
  generalize w.alloc (.cells #[.int .u32 (A : Int), .int .i64 L] 29) = w1 at *
  have HT1 := hide (HT.out.later HB1.out)
  obtain ⟨pa, pc, ca, cc, ra, rc, r, z, hlook, lk⟩ := HT1.out.look A L p
  have HZ := hide lk.there
  have HLK := hide hlook
  clear lk hlook
  obtain ⟨C, hC⟩ : ∃ C, C = rtC pa pc ca cc ra rc r := ⟨_, rfl⟩
  rw [← hC] at HLK
  have HRC : Hid (RC C) := by rw [hC]; exact RC.rt _ _ _ _ _ _ _
  clear hC
  refine region_mix (fun W => Below w1.heap.size w1 W) (fun k => k == 11 || k == 12) (by kernel_rfl) (by kernel_rfl) (by kernel_rfl) (Below.refl _ _).drew ?_
  iterate 11 refine mix_q (by rfl) (by rfl) (fun w9 h9 => (by
    have d0 := (HT1.out.later h9).cell
    have d1 : w9.cell? ⟨w.heap.size, 0, none⟩ = some (.int .u32 (A : Int)) := by rw [h9.cell (p := ⟨w.heap.size, 0, none⟩) hs1]; exact HX1.out.1
    have d2 : w9.cell? ⟨w.heap.size, 1, none⟩ = some (.int .i64 L) := by rw [h9.cell (p := ⟨w.heap.size, 1, none⟩) hs1]; exact HX1.out.2

    have hl := HLK.out w9 (h9.block b (by have := HT1.out.lt; omega))
    unfold kV at hl
    clear h9
    go_simp; first | done | rfl)) (by go_simp; first | done | rfl) ?_
  refine mix_l (by rfl) (by rfl) (by rfl) ?_
  refine kept_alloc_intro _ (run_allocR _) ?_
  refine ⟨(Below.refl _ _).drew.alloc (Nat.le_refl _) _, ?_⟩
  refine mix_l (by rfl) (by rfl) (by rfl) ?_
  refine kept_store_intro _ _ _ (.agg C) (by rfl) (by rfl) (run_storeR (Bl.new w1.drew zR) rfl HRC.out) ?_
  have hb3 : Below w1.heap.size w1 ((w1.drew.alloc (.cells zR 36)).setCells w1.drew.heap.size 0 C.toList) := below_puts ((Below.refl _ _).drew.alloc (Nat.le_refl _) _) (Nat.le_refl _) _
  refine ⟨hb3, ?_⟩
  generalize (w1.drew.alloc (.cells zR 36)).setCells w1.drew.heap.size 0 C.toList = w3 at *
  refine mix_q (by rfl) (by rfl) (fun w9 h9 => (by clear h9; go_simp; first | done | rfl)) (by go_simp; first | done | rfl) ?_
  refine ⟨fun _ h => (by cases h), ?_⟩
  have HT3 := hide (HT1.out.later hb3)
  have HX3 : Hid (w3.cell? ⟨w.heap.size, 0, none⟩ = some (.int .u32 (A : Int)) ∧ w3.cell? ⟨w.heap.size, 1, none⟩ = some (.int .i64 L)) := by
    refine ⟨?_, ?_⟩
    · rw [hb3.cell (p := ⟨w.heap.size, 0, none⟩) hs1]; exact HX1.out.1
    · rw [hb3.cell (p := ⟨w.heap.size, 1, none⟩) hs1]; exact HX1.out.2
  have HB3 : Hid (Below w.heap.size w w3) := HB1.out.trans (hb3.mono HB1.out.size)
  have hs3 : w.heap.size < w3.heap.size := Nat.lt_of_lt_of_le hs1 hb3.size
  clear hb3 HT1 HX1 HB1 hs1 HLK HRC
  go_wp2_with fail
  refine region_mix (fun W => W.cell? ⟨b + 1, 0, none⟩ = some (.map (some b)) ∧ W.cell? ⟨w.heap.size, 0, none⟩ = some (.int .u32 (A : Int)) ∧ W.cell? ⟨w.heap.size, 1, none⟩ = some (.int .i64 L)) (fun k => k == 7) (by kernel_rfl) (by kernel_rfl) (by kernel_rfl) ⟨HT3.out.cell, HX3.out.1, HX3.out.2⟩ ?_
  iterate 7 refine mix_q (by rfl) (by rfl) (fun w9 h9 => (by
    obtain ⟨d0, d1, d2⟩ := h9

    go_simp; first | done | rfl)) (by go_simp; first | done | rfl) ?_
  obtain ⟨w4, hrun, t4, k4⟩ := (HT3.out.later (Below.refl _ _).drew).del A L p 0
  refine mix_l (by rfl) (by rfl) (by rfl) ?_
  refine wp_delete _ _ _ _ (by rfl) (by rfl) hrun ?_
  have hb4 : w.heap.size ≠ b := by omega
  refine ⟨⟨t4.cell, ?_, ?_⟩, ?_⟩
  · rw [k4.cell ⟨w.heap.size, 0, none⟩ hs3 hb4]; exact HX3.out.1
  · rw [k4.cell ⟨w.heap.size, 1, none⟩ hs3 hb4]; exact HX3.out.2
  refine ⟨fun _ h => (by cases h), ?_⟩
  have HT4 := hide t4
  have HK4 : Hid (Keeps (fun x => x = b) w w4) := (Keeps.of_below (HB3.out.drew) _).trans k4 (fun x _ h => h)
  clear hrun t4 k4
  go_wp2
  go_ret
  exact ⟨ret_bool HZ.out, HT4.out, HK4.out⟩
end
end Go.Proofs.Ytjlmkaeepeamkaa
/- The table's Get. -/
namespace Go.Proofs.Ytjlmkaeepeamkaa
open Go.RowKit
set_option maxRecDepth 100000

/-- What Get answers. -/
def GetIs (w' : World) (e : Ending) (l : List Rt) (A : Nat) (L p : Int) : Prop := ∃ pa pc ca cc ra rc r, e = .returned (.tuple #[rtV pa pc ca cc ra rc r, .bool (there A L p l)]) ∧ Look w' l A L p pa ca ra r (there A L p l)
section
attribute [local go_sem ↓] keptR_load keptR_store keptR_box keptR_alloc keptR_build
set_option maxHeartbeats 800000 in
theorem get_nil (A : Nat) (L p : Int) (w : World) : Calls Try.prog 14 #[.pointer none, .int .i64 p, pfV A L] w fun e w' => e = .returned (.tuple #[.agg zR, .bool false]) ∧ Below w.heap.size w w' := by
  go_enter Try.func14, Try.ntmps14
  go_wp2_with fail
  refine kept_alloc_intro _ (run_allocR _) ?_
  obtain ⟨W0, hW0⟩ : ∃ W0, W0 = (w.alloc (.cells #[.int .u32 (A : Int), .int .i64 L] 29)).alloc (.cells zR 36) := ⟨_, rfl⟩
  have HB1 : Hid (Below w.heap.size w W0) := by show Below _ _ _; rw [hW0]; exact ((Below.refl _ _).alloc (Nat.le_refl _) _).alloc (by simp) _
  have HY1 : Hid (Bl W0 (w.heap.size + 1) zR) := by show Bl _ _ _; rw [hW0]; have := Bl.new (w.alloc (.cells #[.int .u32 (A : Int), .int .i64 L] 29)) zR; simpa using this
  rw [← hW0]
  simp only [World.size_alloc]
  clear hW0
  go_wp2_with fail
  refine kept_build0_intro _ (run_build0R _) ?_
  go_wp2_with fail
  refine kept_store_intro _ _ _ (.agg zR) (by rfl) (by rfl) (run_storeR HY1.out rfl RC.zero) ?_
  go_wp2_with fail
  refine bodyPost_ret (v := .tuple #[.agg zR, .bool false]) (res_two Try.results14 _ _ (w.heap.size + 1) _ _ rfl rfl (HY1.out.put rfl) RC.zero) rfl ⟨rfl, below_puts HB1.out (by omega) _⟩
set_option maxHeartbeats 3200000 in
theorem get_any (b : Nat) (l : List Rt) (A : Nat) (L p : Int) (w : World) (h : Tab w b l) :
    Calls Try.prog 14 #[tabV b, .int .i64 p, pfV A L] w fun e w' => GetIs w' e l A L p ∧ Below w.heap.size w w' := by
  have HT := hide h
  have hz := h.lt
  clear h
  go_enter Try.func14, Try.ntmps14
  go_wp2_with fail
  refine kept_alloc_intro _ (run_allocR _) ?_
  go_wp2_with fail
  obtain ⟨W0, hW0⟩ : ∃ W0, W0 = (w.alloc (.cells #[.int .u32 (A : Int), .int .i64 L] 29)).alloc (.cells zR 36) := ⟨_, rfl⟩
  have HB1 : Hid (Below w.heap.size w W0) := by show Below _ _ _; rw [hW0]; exact ((Below.refl _ _).alloc (Nat.le_refl _) _).alloc (by simp) _
  have HX1 : Hid (W0.cell? ⟨w.heap.size, 0, none⟩ = some (.int .u32 (A : Int)) ∧ W0.cell? ⟨w.heap.size, 1, none⟩ = some (.int .i64 L)) := by show _ ∧ _; rw [hW0]; exact ⟨by simp [go_sem], by simp [go_sem]⟩
  have HY1 : Hid (Bl W0 (w.heap.size + 1) zR) := by show Bl _ _ _; rw [hW0]; have := Bl.new (w.alloc (.cells #[.int .u32 (A : Int), .int .i64 L] 29)) zR; simpa using this
  have hs1 : w.heap.size < W0.heap.size := by rw [hW0]; simp; omega
  have hs2 : w.heap.size + 1 < W0.heap.size := by rw [hW0]; simp
  rw [← hW0]
  clear hW0
  generalize W0 = w1 at *
  have HT1 := hide (HT.out.later HB1.out)
  obtain ⟨pa, pc, ca, cc, ra, rc, r, z, hlook, lk⟩ := HT1.out.look A L p
  have HZ := hide lk.there
  have HLO := hide lk
  have HLK := hide hlook
  clear lk hlook
  obtain ⟨C, hC⟩ : ∃ C, C = rtC pa pc ca cc ra rc r := ⟨_, rfl⟩
  rw [← hC] at HLK
  have HRC : Hid (RC C) := by rw [hC]; exact RC.rt _ _ _ _ _ _ _
  have HC := hide hC
  clear hC
  refine region_mix (fun W => Below w1.heap.size w1 W) (fun k => k == 11 || k == 12) (by kernel_rfl) (by kernel_rfl) (by kernel_rfl) (Below.refl _ _).drew ?_
  iterate 11 refine mix_q (by rfl) (by rfl) (fun w9 h9 => (by
    have d0 := (HT1.out.later h9).cell
    have d1 : w9.cell? ⟨w.heap.size, 0, none⟩ = some (.int .u32 (A : Int)) := by rw [h9.cell (p := ⟨w.heap.size, 0, none⟩) hs1]; exact HX1.out.1
    have d2 : w9.cell? ⟨w.heap.size, 1, none⟩ = some (.int .i64 L) := by rw [h9.cell (p := ⟨w.heap.size, 1, none⟩) hs1]; exact HX1.out.2

    have hl := HLK.out w9 (h9.block b (by have := HT1.out.lt; omega))
    unfold kV at hl
    clear h9
    go_simp; first | done | rfl)) (by go_simp; first | done | rfl) ?_
  refine mix_l (by rfl) (by rfl) (by rfl) ?_
  refine kept_alloc_intro _ (run_allocR _) ?_
  refine ⟨(Below.refl _ _).drew.alloc (Nat.le_refl _) _, ?_⟩
  refine mix_l (by rfl) (by rfl) (by rfl) ?_
  refine kept_store_intro _ _ _ (.agg C) (by rfl) (by rfl) (run_storeR (Bl.new w1.drew zR) rfl HRC.out) ?_
  have hb3 : Below w1.heap.size w1 ((w1.drew.alloc (.cells zR 36)).setCells w1.drew.heap.size 0 C.toList) := below_puts ((Below.refl _ _).drew.alloc (Nat.le_refl _) _) (Nat.le_refl _) _
  refine ⟨hb3, ?_⟩
  have HY3 : Hid (Bl ((w1.drew.alloc (.cells zR 36)).setCells w1.drew.heap.size 0 C.toList) w1.heap.size C) := (Bl.new w1.drew zR).put HRC.out.1
  generalize (w1.drew.alloc (.cells zR 36)).setCells w1.drew.heap.size 0 C.toList = w3 at *
  have e9 : w1.drew.heap.size = w1.heap.size := rfl
  rw [e9]
  clear e9
  refine mix_q (by rfl) (by rfl) (fun w9 h9 => (by clear h9; go_simp; first | done | rfl)) (by go_simp; first | done | rfl) ?_
  refine ⟨fun _ h => (by cases h), ?_⟩
  have HZ3 := hide (HY1.out.below hb3)
  have HB3 : Hid (Below w.heap.size w w3) := HB1.out.trans (hb3.mono HB1.out.size)
  have HA3 := hide (HLO.out.1.below hb3)
  have hs3 : w1.heap.size ≤ w3.heap.size := hb3.size
  clear hb3 HT1 HX1 HB1 HLK HY1
  go_wp2_with fail
  refine kept_load_intro _ _ _ (by rfl) (run_loadR HY3.out HRC.out) ?_
  rw [HC.out, ← rtV_eq]
  go_wp2_with fail
  refine (own_any pa pc ca cc ra rc r w3 HLO.out.2.1 HA3.out).mono ?_
  rintro e w4 ⟨⟨pa9, pc9, ca9, cc9, ra9, rc9, rfl, ho4⟩, hb4⟩
  have HZ4 := hide (HZ3.out.below hb4)
  have HB4 : Hid (Below w.heap.size w w4) := HB3.out.trans (hb4.mono HB3.out.size)
  rw [rtV_eq]
  go_wp2_with fail
  refine kept_store_intro _ _ _ (.agg (rtC pa9 pc9 ca9 cc9 ra9 rc9 r)) (by rfl) (by rfl) (run_storeR HZ4.out rfl (RC.rt _ _ _ _ _ _ _)) ?_
  have HO5 : Hid (OwnAt (w4.setCells (w.heap.size + 1) 0 (rtC pa9 pc9 ca9 cc9 ra9 rc9 r).toList) w3.heap.size pa9 pc9 ca9 cc9 ra9 rc9 r.att) := ho4.keeps ((Keeps.refl (fun x => x = w.heap.size + 1) w4).setCells (w.heap.size + 1) 0 (rtC pa9 pc9 ca9 cc9 ra9 rc9 r).toList (.inl rfl)) (fun x hx e => by omega)
  have HR5 := hide (HO5.out.rd HLO.out.2.1 HLO.out.1.next HLO.out.1.raws.bytes)
  have HZ5 : Hid (Bl (w4.setCells (w.heap.size + 1) 0 (rtC pa9 pc9 ca9 cc9 ra9 rc9 r).toList) (w.heap.size + 1) (rtC pa9 pc9 ca9 cc9 ra9 rc9 r)) := HZ4.out.put rfl
  have HB5 : Hid (Below w.heap.size w (w4.setCells (w.heap.size + 1) 0 (rtC pa9 pc9 ca9 cc9 ra9 rc9 r).toList)) := below_puts HB4.out (by omega) _
  generalize w4.setCells (w.heap.size + 1) 0 (rtC pa9 pc9 ca9 cc9 ra9 rc9 r).toList = w5 at *
  go_wp2_with fail
  refine bodyPost_ret (v := .tuple #[.agg (rtC pa9 pc9 ca9 cc9 ra9 rc9 r), .bool z]) (res_two Try.results14 _ w5 (w.heap.size + 1) _ _ rfl rfl HZ5.out (RC.rt _ _ _ _ _ _ _)) rfl ⟨⟨pa9, pc9, ca9, cc9, ra9, rc9, r, by rw [HZ.out]; rfl, HR5.out, HLO.out.2.1, ?_⟩, HB5.out⟩
  rw [← HZ.out]
  exact HLO.out.2.2
end
end Go.Proofs.Ytjlmkaeepeamkaa
