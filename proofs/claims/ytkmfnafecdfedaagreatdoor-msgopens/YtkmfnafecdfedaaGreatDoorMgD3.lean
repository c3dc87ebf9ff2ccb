/- The program's Decode of a KEEPALIVE. -/
import Derived.Test.YtkmfnafecdfedaaGreatDoorHMd
namespace Go.Proofs.YtkmfnafecdfedaaGreatDoor
open Go.RowKit
set_option maxRecDepth 100000

theorem Fr.lay9m {t0 t1 t2 t3 t4 t5 t6 t7 t8 : Nat} {b a : Act} (h : Fr [t0, t1, t2, t3, t4, t5, t6, t7, t8] b a) (hsz : ∀ s ∈ [t0, t1, t2, t3, t4, t5, t6, t7, t8], s < b.tmps.size) {v7 v8 : Value} (h7 : a.tmps[t7]? = some v7) (h8 : a.tmps[t8]? = some v8) :
    ∃ x0 x1 x2 x3 x4 x5 x6, a = ((((((((b.put (some t0) x0).put (some t1) x1).put (some t2) x2).put (some t3) x3).put (some t4) x4).put (some t5) x5).put (some t6) x6).put (some t7) v7).put (some t8) v8 := by
  have get : ∀ t, t ∈ [t0, t1, t2, t3, t4, t5, t6, t7, t8] → ∃ x, a.tmps[t]? = some x := fun t ht => ⟨_, Array.getElem?_eq_getElem (by rw [h.size]; exact hsz t ht)⟩
  obtain ⟨x0, h0⟩ := get t0 (by simp)
  obtain ⟨x1, h1⟩ := get t1 (by simp)
  obtain ⟨x2, h2⟩ := get t2 (by simp)
  obtain ⟨x3, h3⟩ := get t3 (by simp)
  obtain ⟨x4, h4⟩ := get t4 (by simp)
  obtain ⟨x5, h5⟩ := get t5 (by simp)
  obtain ⟨x6, h6⟩ := get t6 (by simp)
  refine ⟨x0, x1, x2, x3, x4, x5, x6, Fr.eq (b := b) (l := [(t0, x0), (t1, x1), (t2, x2), (t3, x3), (t4, x4), (t5, x5), (t6, x6), (t7, v7), (t8, v8)]) (c := b) rfl h.defers h.size h.out fun p hp => ?_⟩
  simp only [List.mem_cons, List.not_mem_nil, or_false] at hp
  rcases hp with rfl | rfl | rfl | rfl | rfl | rfl | rfl | rfl | rfl <;> assumption
section
variable {dst : Option Tmp} {ty : TypeId} {pos : String} {after : Array Edge} {ρ : Operand → Value}
theorem run_of_loadM {w : World} {x : Operand} {g : Nat} {C : Array Value} (hC : MC C) (hx : ρ x = .pointer (some ⟨g, 0, none⟩)) (h : w.rangeAt g 0 C.toList) : (execOp ρ { dst := dst, op := .load 40 x, type := ty, pos := pos, after := after, guard := none }).run Tryz.prog w = .ok (.value (.agg C)) w := by
  unfold execOp
  simp only [hx, Sem.run_bind, run_loadM h hC, Result.andThen_ok, Sem.run_pure]
theorem run_of_loadN' {w : World} {x : Operand} {g : Nat} {c s v : Value} (hx : ρ x = .pointer (some ⟨g, 0, none⟩)) (h : w.rangeAt g 0 [c, s, v]) : (execOp ρ { dst := dst, op := .load 38 x, type := ty, pos := pos, after := after, guard := none }).run Tryz.prog w = .ok (.value (.agg #[c, s, v])) w := by
  have hr := run_loadAt_mid (P := Tryz.prog) w g 0 38 [c, s, v] _ h Tryz.underlying38 rfl infoN
  unfold execOp
  simp only [hx, Sem.run_bind, hr, Result.andThen_ok, Sem.run_pure]
end
/-- What stands behind the head: the answers' boxes, the Note's, and the message's. -/
structure D6 (w W : World) (X Y : Nat) (C : Array Value) (v : Value) : Prop where
  bM : W.heap[w.heap.size]? = some (.cells zM 40 (0, 0))
  bN : W.heap[w.heap.size + 1]? = some (.cells #[.int .i64 0, .int .i64 0, .slice none 0 0] 38 (0, 0))
  bX : W.heap[X]? = some (.cells #[.int .i64 0, .int .i64 0, v] 38 (0, 0))
  bY : W.heap[Y]? = some (.cells C 40 (0, 0))
  hX : w.heap.size + 2 ≤ X
  hY : X < Y
  hs : Y < W.heap.size
  bel : Below w.heap.size w W
/-- What stands behind the head. -/
structure H6 (w w1 W : World) (g o : Nat) (kd : Int) (v : Value) : Prop where
  bM : W.heap[w.heap.size]? = some (.cells zM 40 (0, 0))
  bN : W.heap[w.heap.size + 1]? = some (.cells #[.int .i64 0, .int .i64 0, .slice none 0 0] 38 (0, 0))
  bX : W.heap[w1.heap.size]? = some (.cells #[.int .i64 0, .int .i64 0, v] 38 (0, 0))
  bel : Below w.heap.size w W
  sz : W.heap.size = w1.heap.size + 1
  le : w.heap.size + 1 + 1 ≤ w1.heap.size
  c18 : W.cell? ⟨g, o + 18, none⟩ = some (.int .u8 kd)
theorem h6_of {w w1 : World} {g o : Nat} {kd : Int} (a : Option Addr) (n c : Nat) (hb : Below (w.heap.size + 2) (dW w) w1) (zg : g < w.heap.size) (c18 : w.cell? ⟨g, o + 18, none⟩ = some (.int .u8 kd)) : H6 w w1 (w1.alloc (.cells #[.int .i64 0, .int .i64 0, .slice a n c] 38)) g o kd (.slice a n c) := by
  have hs : w.heap.size + 1 + 1 ≤ w1.heap.size := by have := hb.size; rw [dW_size] at this; exact this
  have hbw : Below w.heap.size w w1 := (dW_below w).trans (hb.mono (by omega))
  have hbw2 : Below w.heap.size w (w1.alloc (.cells #[.int .i64 0, .int .i64 0, .slice a n c] 38)) := hbw.alloc (by omega) _
  refine ⟨?_, ?_, heap_alloc_new w1 _, hbw2, by simp, hs, ?_⟩
  · rw [heap_old (by omega), hb.block _ (by omega)]; exact dW_M w
  · rw [heap_old (by omega), hb.block _ (by omega)]; exact dW_N w
  · rw [hbw2.cell (p := ⟨g, o + 18, none⟩) zg]; exact c18
theorem H6.d6 {w w1 W W6 : World} {g o : Nat} {kd : Int} {v : Value} {C : Array Value} (h : H6 w w1 W g o kd v) (bY : W6.heap[W.heap.size]? = some (.cells C 40 (0, 0))) (hb : Below W.heap.size W W6) : D6 w W6 w1.heap.size W.heap.size C v := by
  have z := h.sz
  have z2 := h.le
  refine ⟨?_, ?_, ?_, bY, by omega, by omega, (Array.getElem?_eq_some_iff.1 bY).1, h.bel.trans (hb.mono (by omega))⟩
  · rw [hb.block _ (by omega)]; exact h.bM
  · rw [hb.block _ (by omega)]; exact h.bN
  · rw [hb.block _ (by omega)]; exact h.bX
section
attribute [local go_sem ↓] keptM_load keptM_store keptM_alloc keptM_build
set_option maxHeartbeats 4000000 in
theorem dec_alive (g o cp : Nat) (bs : List Nat) (w : World) (hn : bs.length = 19) (hcap : 19 ≤ cp) (h : BRd w (some ⟨g, o, none⟩) bs) (hS : SaidM w) (hr : headM bs = (19, 0, 0, [])) (hk4 : bs.getD 18 0 = 4) :
    Calls Tryz.prog 7 #[.slice (some ⟨g, o, none⟩) 19 cp] w fun e w' => ∃ a9 c9, e = .returned (.tuple #[.agg (msgC 4 0 0 (.slice none 0 0)), .agg #[.int .i64 0, .int .i64 0, .slice a9 0 c9]]) ∧ Below w.heap.size w w' := by
  have KH := head_dW (some ⟨g, o, none⟩) cp bs w (by omega) (by omega) h hS _ hr
  rw [hn] at KH
  have HK := hide KH
  obtain ⟨g', o', e9, hc⟩ := h.1.2 (by omega)
  cases e9
  have c18 : w.cell? ⟨g, o + 18, none⟩ = some (.int .u8 4) := by rw [hc 18 (by omega)]; show some (Value.int .u8 ((bs.getD 18 0 : Nat) : Int)) = _; rw [hk4]; rfl
  have zg := World.block_lt_of_cell? w _ c18
  simp only at zg
  clear KH h hS hcap hr hn hk4 hc
  simp only at HK
  go_enter Tryz.func7, Tryz.ntmps7
  go_wp2_with (refine keptM_alloc_intro _ (run_allocM w) ?_)
  show Calls Tryz.prog 20 #[.slice (some ⟨g, o, none⟩) 19 cp] (dW w) _
  with_reducible refine HK.out.mono ?_
  rintro e w1 ⟨a9, c9, rfl, HO, HB⟩
  have HH := hide (h6_of a9 0 c9 HB.out zg c18)
  go_wp2_with fail
  generalize (w1.alloc (.cells #[.int .i64 0, .int .i64 0, .slice a9 0 c9] 38)) = W at *
  refine m_region _ W g o 19 cp 4 ⟨_, _, _, rfl⟩ ⟨_, _, _, rfl⟩ ⟨_, _, _, rfl⟩ ⟨_, _, _, rfl⟩ ⟨_, _, _, rfl⟩ ⟨_, _, _, rfl⟩ ⟨_, _, _, rfl⟩ ⟨_, _, _, rfl⟩ ⟨_, _, _, rfl⟩ ⟨_, _, _, rfl⟩ rfl (by kernel_rfl)
    ⟨by kernel_rfl, by kernel_rfl⟩ ⟨by kernel_rfl, by kernel_rfl⟩ ⟨by kernel_rfl, by kernel_rfl⟩ ⟨by kernel_rfl, by kernel_rfl⟩ ⟨by kernel_rfl, by kernel_rfl⟩ ⟨by kernel_rfl, by kernel_rfl⟩ ⟨by kernel_rfl, by kernel_rfl⟩ (by kernel_rfl) (by kernel_rfl) (by kernel_rfl) (by kernel_rfl)
    rfl rfl (by omega) (by omega) (by omega) HH.out.c18 ?_
  intro a W6 hfr h6 h7 bY hb6
  generalize Value.slice (if cp = 19 then some ⟨g, o, none⟩ else some ⟨g, o + 19, none⟩) (19 - 19) (cp - 19) = v7 at h7
  obtain ⟨x0, x1, x2, x3, x4, x5, x6, rfl⟩ := hfr.lay9m (by exact (by decide : ∀ s ∈ [29, 30, 31, 32, 33, 34, 35, 6, 7], s < 75)) h6 h7
  have HD : Hid (D6 w W6 w1.heap.size W.heap.size (msgC 4 0 0 (.slice none 0 0)) (.slice a9 0 c9)) := HH.out.d6 bY hb6
  have hsz := HH.out.le
  have y0 : W6.cell? ⟨W.heap.size, 0, none⟩ = some (.int .i64 4) := range_of HD.out.bY 0 _ rfl
  have x00 : W6.cell? ⟨w1.heap.size, 0, none⟩ = some (.int .i64 0) := range_of HD.out.bX 0 _ rfl
  have zY : W.heap.size < W6.heap.size := HD.out.hs
  have zX : w1.heap.size < W6.heap.size := by have := HD.out.hY; omega
  clear hfr h6 h7 bY hb6
  simp only [Act.put, List.setIfInBounds_toArray, List.set_cons_zero, List.set_cons_succ]
  go_wp2_with fail
  refine out_region _ W6 w.heap.size (w.heap.size + 1) 40 zM (msgC 4 0 0 (.slice none 0 0)) #[.int .i64 0, .int .i64 0, .slice none 0 0] #[.int .i64 0, .int .i64 0, .slice a9 0 c9] 73 74 _ _ ⟨_, _, _, rfl⟩ ⟨_, _, _, rfl⟩ ⟨_, _, _, rfl⟩ ⟨_, _, _, rfl⟩ rfl (by kernel_rfl) (by kernel_rfl) (by kernel_rfl) (by kernel_rfl) (by kernel_rfl) (by kernel_rfl) (by kernel_rfl) (by kernel_rfl)
    (fun ty po af W' hW => run_of_loadM (MC.msg 4 0 0 none 0 0) (g := W.heap.size) (by rfl) (range_of (by
      rw [hW.block _ (by omega) (by have := HD.out.hX; have := HD.out.hY; omega)]; exact HD.out.bY)))
    (fun ty po af W' hW => run_of_loadN (g := w1.heap.size) (by rfl) (by
      rw [hW.block _ (by omega) (by have := HD.out.hX; omega)]; exact HD.out.bX)) rfl rfl (show 73 < 75 by decide) (show 74 < 75 by decide) (by decide) HD.out.bM HD.out.bN (by omega) rfl rfl infoM infoN (MC.msg 4 0 0 none 0 0).2 (by simp [Value.oneCell']) ?_
  simp only [Act.put, List.setIfInBounds_toArray, List.set_cons_zero, List.set_cons_succ]
  have HRM : Hid (((({ W6 with drawn := W6.drawn + 1 } : World).setCells w.heap.size 0 (msgC 4 0 0 (.slice none 0 0)).toList).setCells (w.heap.size + 1) 0 (#[Value.int .i64 0, .int .i64 0, .slice a9 0 c9] : Array Value).toList).rangeAt w.heap.size 0 (msgC 4 0 0 (.slice none 0 0)).toList) := bx_apart (bx_set (w := { W6 with drawn := W6.drawn + 1 }) HD.out.bM (Nat.le_refl _)) (by omega)
  have HRN : Hid (((({ W6 with drawn := W6.drawn + 1 } : World).setCells w.heap.size 0 (msgC 4 0 0 (.slice none 0 0)).toList).setCells (w.heap.size + 1) 0 (#[Value.int .i64 0, .int .i64 0, .slice a9 0 c9] : Array Value).toList).rangeAt (w.heap.size + 1) 0 (#[Value.int .i64 0, .int .i64 0, .slice a9 0 c9] : Array Value).toList) :=
    bx_set (C0 := #[.int .i64 0, .int .i64 0, .slice none 0 0]) (t := 38) (by rw [heap_sets (by omega)]; exact HD.out.bN) (by simp)
  have HKe : Hid (Keeps (fun x => x = w.heap.size ∨ x = w.heap.size + 1) W6 ((({ W6 with drawn := W6.drawn + 1 } : World).setCells w.heap.size 0 (msgC 4 0 0 (.slice none 0 0)).toList).setCells (w.heap.size + 1) 0 (#[Value.int .i64 0, .int .i64 0, .slice a9 0 c9] : Array Value).toList)) :=
    (Keeps.setCells (w := W6) (w1 := { W6 with drawn := W6.drawn + 1 }) ⟨rfl, rfl, rfl, Nat.le_refl _, fun _ _ _ => rfl⟩ _ 0 _ (.inl (.inl rfl))).setCells _ 0 _ (.inl (.inr rfl))
  generalize ((({ W6 with drawn := W6.drawn + 1 } : World).setCells w.heap.size 0 (msgC 4 0 0 (.slice none 0 0)).toList).setCells (w.heap.size + 1) 0 (#[Value.int .i64 0, .int .i64 0, .slice a9 0 c9] : Array Value).toList) = W9 at *
  go_wp2_with fail
  refine bodyPost_ret (v := .tuple #[.agg (msgC 4 0 0 (.slice none 0 0)), .agg #[.int .i64 0, .int .i64 0, .slice a9 0 c9]]) (res_cells2 Tryz.results7 _ W9 w.heap.size (w.heap.size + 1) (msgC 4 0 0 (.slice none 0 0)) _ rfl rfl HRM.out HRN.out Tryz.underlying40 rfl infoM Tryz.underlying38 rfl infoN) rfl ⟨⟨a9, c9, rfl⟩, ?_⟩
  exact HD.out.bel.trans (HKe.out.below _ (by have := HD.out.bel.size; omega) (fun x e => by omega))
end
end Go.Proofs.YtkmfnafecdfedaaGreatDoor
