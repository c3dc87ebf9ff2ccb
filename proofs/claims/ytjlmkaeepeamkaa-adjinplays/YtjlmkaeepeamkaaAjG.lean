/- The table's routes whose keys are wanted, in any order. -/
import Derived.Test.YtjlmkaeepeamkaaAjF
import Derived.Maps.Range
namespace Go.Proofs.Ytjlmkaeepeamkaa
open Go.RowKit Go.ChangeMaps Go.MapKept
set_option maxRecDepth 100000

/-- A loop over the map's entries: its iterator, block r. -/
structure It (w : World) (b r : Nat) (es : Array MapEntry) (clock : Nat) (seen : Array Nat) : Prop where
  it : ∃ c0, w.heap[r]? = some (.mapIter (some b) clock seen c0) ∧ clock ≤ c0
  map : w.heap[b]? = some (.map es clock)
theorem It.keeps {F : Nat → Prop} {w w' : World} {b r : Nat} {es : Array MapEntry} {clock : Nat} {seen : Array Nat} (h : It w b r es clock seen) (hk : Keeps F w w') (hb : ¬ F b) (hr : ¬ F r) : It w' b r es clock seen := by
  obtain ⟨⟨c0, h1, h2⟩, h3⟩ := h
  exact ⟨⟨c0, by rw [hk.block r (Array.getElem?_eq_some_iff.1 h1).1 hr]; exact h1, h2⟩, by rw [hk.block b (Array.getElem?_eq_some_iff.1 h3).1 hb]; exact h3⟩
theorem It.later {w w' : World} {b r : Nat} {es : Array MapEntry} {clock : Nat} {seen : Array Nat} (h : It w b r es clock seen) (hb : Below w.heap.size w w') : It w' b r es clock seen :=
  h.keeps (F := fun _ => False) (Keeps.of_below hb _) id id
theorem It.left {w : World} {b r : Nat} {es : Array MapEntry} {clock : Nat} {seen : Array Nat} (h : It w b r es clock seen) : w.rangeLeft b r = (leftOf es seen).size := by
  obtain ⟨⟨c0, h1, h2⟩, h3⟩ := h
  simp only [World.rangeLeft, h1, h3]
/-- The next entry, or that there is none. -/
theorem It.next {w : World} {b r : Nat} {es : Array MapEntry} {clock : Nat} {seen : Array Nat} (h : It w b r es clock seen) (hs : Stamped es clock) (hne : r ≠ b) :
    ((leftOf es seen).size = 0 ∧ ∀ ty, (Instr.next (.pointer (some ⟨r, 0, none⟩)) false ty).run Try.prog w = .ok (.tuple #[.bool false]) w) ∨
    ∃ e w', e ∈ es.toList ∧ seen.contains e.born = false ∧ (∀ ty, (Instr.next (.pointer (some ⟨r, 0, none⟩)) false ty).run Try.prog w = .ok (.tuple #[.bool true, e.key, e.val]) w') ∧ (Instr.entry (.pointer (some ⟨r, 0, none⟩))).run Try.prog w' = .ok (.tuple #[e.key, e.val]) w' ∧ It w' b r es clock (seen.push e.born) ∧ Keeps (fun k => k = r) w w' ∧ (leftOf es (seen.push e.born)).size < (leftOf es seen).size := by
  obtain ⟨⟨c0, h1, h2⟩, h3⟩ := h
  rcases run_next_at (P := Try.prog) w 0 r b clock c0 seen es clock h1 h3 hs.1 h2 with ⟨k1, k2⟩ | ⟨e, he, w1, hw, hrun⟩
  · exact .inl ⟨k1, fun _ => k2⟩
  · obtain ⟨hem, hes⟩ := mem_left he
    have hr1 : w1.heap[r]? = some (.mapIter (some b) clock seen c0) := by rcases hw with rfl | rfl <;> exact h1
    have hb1 : w1.heap[b]? = some (.map es clock) := by rcases hw with rfl | rfl <;> exact h3
    have hset := heap_set (o' := .mapIter (some b) clock (seen.push e.born) clock) hr1
    have hb' : (setBlock w1 r (.mapIter (some b) clock (seen.push e.born) clock)).heap[b]? = some (.map es clock) := (hset.2 b (fun e1 => hne e1.symm)).trans hb1
    refine .inr ⟨e, _, hem, hes, fun _ => hrun, run_entry_at _ r b clock seen es clock e hset.1 hb' hem ((stamped_iff es clock).1 hs).2.1, ⟨⟨clock, hset.1, Nat.le_refl _⟩, hb'⟩, ?_, left_shrinks es seen e he⟩
    rcases hw with rfl | rfl <;> exact ⟨rfl, rfl, rfl, by simp [setBlock], fun k _ hk => hset.2 k hk⟩
set_option maxHeartbeats 800000 in
theorem those_nil (v : Value) (w : World) : Calls Try.prog 25 #[.pointer none, v] w fun e w' => e = .returned (.slice none 0 0) ∧ w' = w := by
  go_enter Try.func25, Try.ntmps25
  go_wp2
  go_ret
  exact ⟨rfl, rfl⟩
section
attribute [local go_sem ↓] keptR_load keptR_store keptR_box keptR_alloc keptR_build keptR_one kept_app
set_option maxHeartbeats 6400000 in
theorem those_any (b k : Nat) (caps : Array Value) (l : List Rt) (f : Rt → Bool) (w : World) (h : Tab w b l) (hl : l.length ≤ 100000)
    (hent : ∀ args w, (callFunc k args).run Try.prog w = .ok (.enter k args) w)
    (hcall : ∀ (r : Rt) w1, Below w.heap.size w w1 → Calls Try.prog k (#[kV r.A r.L r.peer] ++ caps) w1 fun e w2 => e = .returned (.bool (f r)) ∧ Below w1.heap.size w1 w2) :
    Calls Try.prog 25 #[tabV b, .func (.func k) #[] caps] w fun e w' => (∃ v acc, e = .returned v ∧ OwnTb w' w.heap.size v acc ∧ acc.Perm (l.filter f)) ∧ Below w.heap.size w w' := by
  have c0 := h.cell
  have z0 := h.lt
  have HK := hide hcall
  obtain ⟨es, clock, ro, h1, h2, h3, h4, h5⟩ := h
  have hrg := run_range_map (P := Try.prog) w 55 _ _ b es clock Try.underlying55 h1
  have HS := hide h2
  have HE := hide h4
  have HP := hide h5
  have HI0 : Hid (It (w.alloc (.mapIter (some b) clock #[] clock)) b w.heap.size es clock #[]) := ⟨⟨clock, (heap_alloc w _).1, Nat.le_refl _⟩, by rw [(heap_alloc w _).2 b (by omega)]; exact h1⟩
  have HL : Hid (es.toList.length ≤ 100000) := by show List.length _ ≤ _; have := h5.length_eq; rw [List.length_map] at this; omega
  clear h2 h4 h5 hl hcall h1 h3
  go_enter Try.func25, Try.ntmps25
  go_wp2
  go_loopw [5] (fun v wq => ∃ (acc : List Rt) (a9 : Option Addr) (c9 : Nat) (seen : Array Nat), v = .slice a9 acc.length c9 ∧ Hid (OwnTb wq (w.heap.size + 1) (.slice a9 acc.length c9) acc) ∧ Hid (It wq b w.heap.size es clock seen) ∧ Hid (Below w.heap.size w wq ∧ w.heap.size + 1 ≤ wq.heap.size) ∧ Hid (acc.Perm (((told es.toList seen).map ro).filter f))) (fun _ wq => wq.rangeLeft b w.heap.size)
  case atStart => exact ⟨[], none, 0, #[], rfl, OwnTb.nil _ _, HI0, ⟨(Below.refl _ _).alloc (Nat.le_refl _) _, by simp⟩, by show List.Perm _ _; rw [told_none]; exact List.Perm.refl _⟩
  case round =>
    obtain ⟨acc, a9, c9, seen, rfl, HO, HI, HB, HA⟩ := hrel
    rcases HI.out.next HS.out (by omega) with ⟨hn0, hnx⟩ | ⟨e, w1, he, hsn, hnx, hen, hit, hkp, hlt⟩
    · have HT := hide (told_all hn0)
      clear hn0
      go_wp2
      go_ret
      exact ⟨⟨_, acc, rfl, HO.out.base (by omega), HA.out.trans (by rw [HT.out]; exact HP.out.filter _)⟩, HB.out.1⟩
    · obtain ⟨hk0, pa, pc, ca, cc, ra, rc, hv0, _, hr0, hs0⟩ := HE.out e he
      rw [hk0, hv0] at hnx hen
      unfold kV at hnx hen
      have HRC : Hid (RC (rtC pa pc ca cc ra rc (ro e))) := RC.rt _ _ _ _ _ _ _
      have hb1 : Below w.heap.size w w1 := HB.out.1.trans (hkp.below _ HB.out.1.size (fun x hx => by omega))
      have HR1 : Hid (AtRd w1 pa ca ra (ro e).att) := hr0.below hb1
      have HS1 := hide hs0
      have HO1 : Hid (OwnTb w1 (w.heap.size + 1) (.slice a9 acc.length c9) acc) := HO.out.keeps hkp (fun x hx e => by omega)
      have HI1 := hide hit
      have HB1 : Hid (Below w.heap.size w w1 ∧ w.heap.size + 1 ≤ w1.heap.size) := ⟨hb1, Nat.le_trans HB.out.2 hkp.size⟩
      have HM : Hid (∀ W, It W b w.heap.size es clock (seen.push e.born) → W.rangeLeft b w.heap.size < wr.rangeLeft b w.heap.size) := fun W hW => by rw [hW.left, HI.out.left]; exact hlt
      have HPM : Hid ((((told es.toList (seen.push e.born)).map ro).filter f).Perm ((ro e :: (told es.toList seen).map ro).filter f)) := (((told_more ((stamped_iff es clock).1 HS.out).2.1 he hsn).map ro).filter f)
      have HLN : Hid (acc.length ≤ 100000) := by
        show _ ≤ _
        have e1 := HA.out.length_eq
        have e2 := List.length_filter_le f ((told es.toList seen).map ro)
        have e3 := List.length_filter_le (fun e => seen.contains e.born) es.toList
        have e4 := HL.out
        rw [List.length_map] at e2
        unfold told at e1 e2
        omega
      clear hk0 hv0 hr0 hs0 hb1 hit hkp hlt hsn he HE HI HO HB
      generalize seen.push e.born = sn at *
      generalize ro e = x at *
      obtain ⟨C, hC⟩ : ∃ C, C = rtC pa pc ca cc ra rc x := ⟨_, rfl⟩
      rw [← hC] at HRC hnx hen
      have HC := hide hC
      clear hC
      go_wp2_with fail
      refine kept_alloc_intro _ (run_allocR _) ?_
      obtain ⟨W0, hW0⟩ : ∃ W0, W0 = (w1.alloc (.cells #[.int .i64 0, .int .u32 0, .int .i64 0] 65)).alloc (.cells zR 36) := ⟨_, rfl⟩
      have HBa : Hid (Below w1.heap.size w1 W0) := by show Below _ _ _; rw [hW0]; exact ((Below.refl _ _).alloc (Nat.le_refl _) _).alloc (by simp) _
      have HY0 : Hid (Bl W0 (w1.heap.size + 1) zR) := by show Bl _ _ _; rw [hW0]; have := Bl.new (w1.alloc (.cells #[.int .i64 0, .int .u32 0, .int .i64 0] 65)) zR; simpa using this
      have hk0 : W0.heap[w1.heap.size]? = some (.cells #[.int .i64 0, .int .u32 0, .int .i64 0] 65 (0, 0)) := by rw [hW0, (heap_alloc _ _).2 _ (by simp)]; exact (heap_alloc w1 _).1
      have k0 : W0.cell? ⟨w1.heap.size, 0, none⟩ = some (.int .i64 0) := by simp [World.cell?, hk0]
      have k1 : W0.cell? ⟨w1.heap.size, 1, none⟩ = some (.int .u32 0) := by simp [World.cell?, hk0]
      have k2 : W0.cell? ⟨w1.heap.size, 2, none⟩ = some (.int .i64 0) := by simp [World.cell?, hk0]
      have f0 : W0.frozen? ⟨w1.heap.size, 0, none⟩ = false := by simp [World.frozen?, hk0]
      have f1 : W0.frozen? ⟨w1.heap.size, 1, none⟩ = false := by simp [World.frozen?, hk0]
      have f2 : W0.frozen? ⟨w1.heap.size, 2, none⟩ = false := by simp [World.frozen?, hk0]
      have zz : w1.heap.size < W0.heap.size := by rw [hW0]; simp; omega
      rw [← hW0]
      simp only [World.size_alloc]
      clear hW0 hk0
      go_wp2_with fail
      obtain ⟨W1, hW1⟩ : ∃ W1, W1 = ((W0.setCell ⟨w1.heap.size, 0, none⟩ (.int .i64 x.peer)).setCell ⟨w1.heap.size, 1, none⟩ (.int .u32 (x.A : Int))).setCell ⟨w1.heap.size, 2, none⟩ (.int .i64 x.L) := ⟨_, rfl⟩
      have HY1 : Hid (Bl W1 (w1.heap.size + 1) zR) := by show Bl _ _ _; rw [hW1]; exact ((HY0.out.other _ _ (by omega)).other _ _ (by omega)).other _ _ (by omega)
      have HBb : Hid (Below w1.heap.size w1 W1) := by show Below _ _ _; rw [hW1]; exact ((HBa.out.setCell (Nat.le_refl _) _).setCell (Nat.le_refl _) _).setCell (Nat.le_refl _) _
      have q0 : W1.cell? ⟨w1.heap.size, 0, none⟩ = some (.int .i64 x.peer) := by rw [hW1]; simp [go_sem, k0]
      have q1 : W1.cell? ⟨w1.heap.size, 1, none⟩ = some (.int .u32 (x.A : Int)) := by rw [hW1]; simp [go_sem, k1]
      have q2 : W1.cell? ⟨w1.heap.size, 2, none⟩ = some (.int .i64 x.L) := by rw [hW1]; simp [go_sem, k2]
      have zy : w1.heap.size < W1.heap.size := by rw [hW1]; simpa using zz
      rw [← hW1]
      clear hW1 k0 k1 k2 f0 f1 f2 zz HY0 HBa hnx hen
      refine kept_store_intro _ _ _ (.agg C) (by rfl) (by rfl) (run_storeR HY1.out rfl HRC.out) ?_
      have HY2 : Hid (Bl (W1.setCells (w1.heap.size + 1) 0 C.toList) (w1.heap.size + 1) C) := HY1.out.put HRC.out.1
      have HB2 : Hid (Below w1.heap.size w1 (W1.setCells (w1.heap.size + 1) 0 C.toList)) := below_puts HBb.out (by omega) _
      have hkq : Keeps (fun y => y = w1.heap.size + 1) W1 (W1.setCells (w1.heap.size + 1) 0 C.toList) := (Keeps.refl _ W1).setCells _ _ _ (.inl rfl)
      have e0 := (hkq.cell ⟨w1.heap.size, 0, none⟩ zy (by show ¬ w1.heap.size = w1.heap.size + 1; omega)).trans q0
      have e1 := (hkq.cell ⟨w1.heap.size, 1, none⟩ zy (by show ¬ w1.heap.size = w1.heap.size + 1; omega)).trans q1
      have e2 := (hkq.cell ⟨w1.heap.size, 2, none⟩ zy (by show ¬ w1.heap.size = w1.heap.size + 1; omega)).trans q2
      have zx := Nat.lt_of_lt_of_le zy hkq.size
      clear hkq q0 q1 q2 zy HBb HY1
      generalize W1.setCells (w1.heap.size + 1) 0 C.toList = w2 at *
      have HBw : Hid (Below w.heap.size w w2) := HB1.out.1.trans (HB2.out.mono HB1.out.1.size)
      have K := hide (HK.out x w2 HBw.out)
      unfold kV at K
      go_wp2_with fail
      refine K.out.mono ?_
      rintro e9 w3 ⟨rfl, hb3⟩
      have HY3 := hide (HY2.out.below hb3)
      have HB3 : Hid (Below w1.heap.size w1 w3) := HB2.out.trans (hb3.mono HB2.out.size)
      clear hb3 K HBw HB2 HY2 e0 e1 e2 zx
      have HO3 := hide (HO1.out.later HB3.out)
      have HI3 := hide (HI1.out.later HB3.out)
      have HR3 := hide (HR1.out.below HB3.out)
      have HBw3 : Hid (Below w.heap.size w w3 ∧ w.heap.size + 1 ≤ w3.heap.size) := ⟨HB1.out.1.trans (HB3.out.mono HB1.out.1.size), Nat.le_trans HB1.out.2 HB3.out.size⟩
      cases hf : f x with
      | false =>
        have HA3 : Hid (acc.Perm (((told es.toList sn).map ro).filter f)) := HA.out.trans (by
          refine List.Perm.trans ?_ HPM.out.symm
          rw [List.filter_cons, hf]
          exact List.Perm.refl _)
        clear hf
        go_wp2
        exact ⟨⟨acc, a9, c9, sn, rfl, HO3, HI3, HBw3, HA3⟩, HM.out _ HI3.out⟩
      | true =>
        have HA3 : Hid ((acc ++ [x]).Perm (((told es.toList sn).map ro).filter f)) := by
          show List.Perm _ _
          refine List.Perm.trans ?_ HPM.out.symm
          rw [List.filter_cons, hf]
          exact (List.perm_append_singleton _ _).trans (List.Perm.cons _ HA.out)
        clear hf
        go_wp2_with fail
        refine kept_load_intro _ _ _ (by rfl) (run_loadR HY3.out HRC.out) ?_
        rw [HC.out, ← rtV_eq]
        go_wp2_with fail
        refine (own_any pa pc ca cc ra rc x w3 HS1.out HR3.out).mono ?_
        rintro e9 w4 ⟨⟨pa9, pc9, ca9, cc9, ra9, rc9, rfl, ho4⟩, hb4⟩
        obtain ⟨a8, c8, w5, hr5, ho5, hb5⟩ := (HO3.out.later hb4).snoc (r := x) (Nat.le_trans HBw3.out.2 hb4.size) (ho4.base HBw3.out.2) (okR.of HS1.out HR3.out) (by have := HLN.out; omega)
        have HR5 := hide hr5
        have HO5 := hide ho5
        have hb35 : Below (w.heap.size + 1) w3 w5 := (hb4.mono HBw3.out.2).trans hb5
        have HI5 : Hid (It w5 b w.heap.size es clock sn) := HI3.out.keeps (F := fun y => w.heap.size + 1 ≤ y) ⟨hb35.os, hb35.tape, hb35.output, hb35.size, fun y _ hy => hb35.block y (by omega)⟩ (by omega) (by omega)
        have HB5 : Hid (Below w.heap.size w w5 ∧ w.heap.size + 1 ≤ w5.heap.size) := ⟨HBw3.out.1.trans (hb35.mono (by omega)), Nat.le_trans HBw3.out.2 hb35.size⟩
        have HLE : Hid ((acc ++ [x]).length = acc.length + 1) := by show List.length _ = _; simp
        clear hr5 ho5 hb35 hb5 hb4 ho4
        rw [rtV_eq]
        go_wp2_with fail
        refine keptR_one_intro _ _ _ (by rfl) (run_one _ _ _ _ _ _ _ _) ?_
        go_wp2_with fail
        refine kept_app_intro _ _ _ _ _ _ (w' := w5) (by rfl) (by rfl) (by exact HR5.out) ?_
        clear HR5
        go_wp2
        exact ⟨⟨acc ++ [x], a8, c8, sn, by rw [HLE.out], by rw [HLE.out]; exact HO5, HI5, HB5, HA3⟩, HM.out _ HI5.out⟩
end
end Go.Proofs.Ytjlmkaeepeamkaa
