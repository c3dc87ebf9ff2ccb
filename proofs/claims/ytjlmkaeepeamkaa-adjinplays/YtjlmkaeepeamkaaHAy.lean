/- The table's Prefixes; the document's SamePrefixes. -/
import Derived.Test.YtjlmkaeepeamkaaAjX
namespace Go.Proofs.Ytjlmkaeepeamkaa
open Go.RowKit Go.ChangeMaps Go.MapKept
set_option maxRecDepth 100000

/-- A list of prefixes that is read. -/
def PxRd (w : World) (a : Option Addr) (ps : List (Nat × Int)) : Prop := 0 < ps.length → ∃ g o, a = some ⟨g, o, none⟩ ∧ PxAt w g o ps
theorem PxAt.below {w w' : World} {g o : Nat} {ps : List (Nat × Int)} (h : PxAt w g o ps) (hb : Below w.heap.size w w') : PxAt w' g o ps := fun i p hi => by
  obtain ⟨h1, h2⟩ := h i p hi
  exact ⟨by rw [hb.cell (p := ⟨g, o + i * 2, none⟩) (World.block_lt_of_cell? w _ h1)]; exact h1, by rw [hb.cell (p := ⟨g, o + i * 2 + 1, none⟩) (World.block_lt_of_cell? w _ h2)]; exact h2⟩
theorem PxRd.below {w w' : World} {a : Option Addr} {ps : List (Nat × Int)} (h : PxRd w a ps) (hb : Below w.heap.size w w') : PxRd w' a ps := fun hp => by
  obtain ⟨g, o, e, h1⟩ := h hp
  exact ⟨g, o, e, h1.below hb⟩
theorem OwnPx.rd {w : World} {B : Nat} {v : Value} {ps : List (Nat × Int)} (h : OwnPx w B v ps) : ∃ a c, v = .slice a ps.length c ∧ PxRd w a ps := by
  unfold OwnPx at h
  have hh := h
  rcases h.2 with ⟨rfl, h0⟩ | ⟨g, cap, cur, rfl, _⟩
  · exact ⟨none, 0, by rw [h0], fun hp => absurd hp (by omega)⟩
  · refine ⟨_, _, rfl, fun _ => ⟨g, 0, rfl, fun i p hi => ?_⟩⟩
    have hil := (List.getElem?_eq_some_iff.1 hi).1
    obtain ⟨h1, h2⟩ := qcells_get ps i p hi
    rw [Nat.zero_add, hh.cellAt (i * 2) (by omega), hh.cellAt (i * 2 + 1) (by omega)]
    exact ⟨h1, h2⟩
/-- A row's prefixes by their places. -/
theorem OwnPx.row {w : World} {B g n c : Nat} {ps : List (Nat × Int)} (h : OwnPx w B (.slice (some ⟨g, 0, none⟩) n c) ps) (hn : ps.length = n) : RowF w g n (fun j => ps[j]?.getD (0, 0)) := by
  unfold OwnPx at h
  subst hn
  have key : ∀ j, j < ps.length → ps[j]? = some (ps[j]?.getD (0, 0)) := fun j hj => by rw [List.getElem?_eq_getElem (by omega)]; rfl
  refine ⟨fun j hj => ?_, fun j hj => ?_, fun j => h.frozenAt j⟩
  · rw [h.cellAt (j * 2) (by omega)]; exact (qcells_get ps j _ (key j hj)).1
  · rw [h.cellAt (j * 2 + 1) (by omega)]; exact (qcells_get ps j _ (key j hj)).2
/-- The prefixes of routes, put in order, each run once: all of them, each once. -/
theorem comp_allR {l : List Rt} {ps : List (Nat × Int)} (hr : RisesR l) (hp : ps.Perm (l.map kp)) (hs : ps.Pairwise fun x y => ¬ lessK y x) : compU (fun j => ps[j]?.getD (0, 0)) ps.length = allR l := by
  have key : ∀ j, j < ps.length → ps[j]? = some (ps[j]?.getD (0, 0)) := fun j hj => by rw [List.getElem?_eq_getElem hj]; rfl
  refine lessK_eq _ _ (compU_rises (n := ps.length) (fun i j hij hj => ?_) _ (Nat.le_refl _)) (allR_rises l hr) fun x => ?_
  · have := List.pairwise_iff_getElem.1 hs i j (by omega) hj hij
    rw [List.getElem?_eq_getElem hj, List.getElem?_eq_getElem (by omega)]
    exact this
  · rw [mem_compU, mem_allR]
    constructor
    · rintro ⟨j, hj, rfl⟩
      obtain ⟨y, hy, e⟩ := List.mem_map.1 (hp.mem_iff.1 (List.mem_of_getElem? (key j hj)))
      exact ⟨y, hy, e⟩
    · rintro ⟨y, hy, rfl⟩
      obtain ⟨j, hj⟩ := List.mem_iff_getElem?.1 (hp.mem_iff.2 (List.mem_map.2 ⟨y, hy, rfl⟩))
      have hjl := (List.getElem?_eq_some_iff.1 hj).1
      exact ⟨j, hjl, by rw [hj]; rfl⟩
set_option maxHeartbeats 800000 in
theorem prefixes_nil (w : World) : Calls Try.prog 21 #[.pointer none] w fun e w' => e = .returned (.slice none 0 0) ∧ w' = w := by
  go_enter Try.func21, Try.ntmps21
  go_wp2
  go_ret
  exact ⟨rfl, rfl⟩
section
attribute [local go_sem ↓] kept_app
set_option maxHeartbeats 6400000 in
theorem prefixes_any (b : Nat) (l : List Rt) (w : World) (h : Tab w b l) (hr : RisesR l) (hl : l.length ≤ 100000) :
    Calls Try.prog 21 #[tabV b] w fun e w' => (∃ a c, e = .returned (.slice a (allR l).length c) ∧ PxRd w' a (allR l)) ∧ Below w.heap.size w w' := by
  have c0 := h.cell
  have z0 := h.lt
  obtain ⟨es, clock, ro, h1, h2, h3, h4, h5⟩ := h
  have hrg := run_range_map (P := Try.prog) w 55 _ _ b es clock Try.underlying55 h1
  have HS := hide h2
  have HE := hide h4
  have HP := hide h5
  have HRI := hide hr
  have HI0 : Hid (It (w.alloc (.mapIter (some b) clock #[] clock)) b w.heap.size es clock #[]) := ⟨⟨clock, (heap_alloc w _).1, Nat.le_refl _⟩, by rw [(heap_alloc w _).2 b (by omega)]; exact h1⟩
  have HL : Hid (es.toList.length ≤ 100000) := by show List.length _ ≤ _; have := h5.length_eq; rw [List.length_map] at this; omega
  clear h2 h4 h5 hl h1 h3 hr
  go_enter Try.func21, Try.ntmps21
  go_wp2
  go_loopw [3] (fun v wq => ∃ (acc : List (Nat × Int)) (a9 : Option Addr) (c9 : Nat) (seen : Array Nat), v = .slice a9 acc.length c9 ∧ Hid (OwnPx wq (w.heap.size + 1) (.slice a9 acc.length c9) acc) ∧ Hid (It wq b w.heap.size es clock seen) ∧ Hid (Below w.heap.size w wq ∧ w.heap.size + 1 ≤ wq.heap.size) ∧ Hid (acc.Perm (((told es.toList seen).map ro).map kp))) (fun _ wq => wq.rangeLeft b w.heap.size)
  case atStart => exact ⟨[], none, 0, #[], rfl, own_nil _ _ _ _, HI0, ⟨(Below.refl _ _).alloc (Nat.le_refl _) _, by simp⟩, by show List.Perm _ _; rw [told_none]; exact List.Perm.refl _⟩
  case round =>
    obtain ⟨acc, a9, c9, seen, rfl, HO, HI, HB, HA⟩ := hrel
    have HLN : Hid (acc.length ≤ 100000) := by
      show _ ≤ _
      have e1 := HA.out.length_eq
      have e3 := List.length_filter_le (fun e => seen.contains e.born) es.toList
      have e4 := HL.out
      rw [List.length_map, List.length_map] at e1
      unfold told at e1
      omega
    rcases HI.out.next HS.out (by omega) with ⟨hn0, hnx⟩ | ⟨e, w1, he, hsn, hnx, hen, hit, hkp, hlt⟩
    · have HT : Hid (acc.Perm (l.map kp)) := HA.out.trans (by rw [told_all hn0]; exact HP.out.map kp)
      clear hn0
      go_wp2_with fail
      refine (sortPx (w.heap.size + 1) (.slice a9 acc.length c9) acc wr HO.out HLN.out).mono ?_
      rintro e w2 ⟨rfl, ⟨l', hp2, hs2, ho2⟩, hk2⟩
      have HO2 : Hid (OwnPx w2 (w.heap.size + 1) (.slice a9 l'.length c9) l') := by rw [hp2.length_eq]; exact ho2
      have HB2 : Hid (Below w.heap.size w w2 ∧ w.heap.size + 1 ≤ w2.heap.size) := ⟨HB.out.1.trans ((hk2.below (w.heap.size + 1) HB.out.2 (fun g hg => (own_block HO.out g hg).1)).mono (by omega)), Nat.le_trans HB.out.2 hk2.size⟩
      have HC : Hid (compU (fun j => l'[j]?.getD (0, 0)) l'.length = allR l) := comp_allR HRI.out (hp2.trans HT.out) hs2
      have hl2 : acc.length = l'.length := hp2.length_eq.symm
      have hln : l'.length ≤ 100000 := by have := HLN.out; omega
      rw [hl2]
      clear hp2 hs2 ho2 hk2 HO HA HT HB HI hnx HLN
      by_cases hshort : l'.length < 2
      · go_wp2_with fail
        refine (comp_short a9 l'.length c9 w2 hshort).mono ?_
        rintro e w3 ⟨rfl, rfl⟩
        have HE2 : Hid (l' = allR l) := by
          show _ = _
          rw [← HC.out]
          match l', hshort with
          | [], _ => rfl
          | [x], _ => rfl
        obtain ⟨_, _, e9, h9⟩ := HO2.out.rd
        have HR9 : Hid (PxRd w3 a9 (allR l)) := by
          injection e9 with e9 _ _
          rw [← HE2.out, e9]
          exact h9
        have HLE : Hid ((allR l).length = l'.length) := by show List.length _ = _; rw [← HE2.out]
        clear e9 h9
        go_wp2
        go_ret
        exact ⟨⟨a9, c9, by rw [HLE.out]; rfl, HR9.out⟩, HB2.out.1⟩
      · obtain ⟨g, c, rfl, rfl, hgb, hcap⟩ : ∃ g c, a9 = some ⟨g, 0, none⟩ ∧ c9 = c ∧ w.heap.size + 1 ≤ g ∧ l'.length ≤ c := by
          rcases HO2.out.2 with ⟨e9, _⟩ | ⟨g, cap, cur, e9, k1, k2, k3, _⟩
          · injection e9 with _ e9 _; omega
          · injection e9 with e1 _ e3
            exact ⟨g, cap, e1, e3, k1, k3⟩
        have K := hide (comp_row g l'.length c9 (fun j => l'[j]?.getD (0, 0)) w2 (by omega) hln hcap (HO2.out.row rfl))
        rw [HC.out] at K
        go_wp2_with fail
        refine K.out.mono ?_
        rintro e w3 ⟨rfl, hx3, hk3⟩
        have HX3 : Hid (PxRd w3 (some ⟨g, 0, none⟩) (allR l)) := fun _ => ⟨g, 0, rfl, hx3⟩
        have HB3 : Hid (Below w.heap.size w w3) := HB2.out.1.trans (hk3.below w.heap.size (by have := HB2.out.2; omega) (fun y hy => by omega))
        clear hx3 hk3 K
        go_wp2
        go_ret
        exact ⟨⟨_, _, rfl, HX3.out⟩, HB3.out⟩
    · obtain ⟨hk0, pa, pc, ca, cc, ra, rc, hv0, _⟩ := HE.out e he
      rw [hk0, hv0] at hnx hen
      unfold kV at hnx hen
      have hb1 : Below w.heap.size w w1 := HB.out.1.trans (hkp.below _ HB.out.1.size (fun x hx => by omega))
      have HO1 : Hid (OwnPx w1 (w.heap.size + 1) (.slice a9 acc.length c9) acc) := own_keeps HO.out hkp (fun x hx e => by omega)
      have HI1 := hide hit
      have HB1 : Hid (Below w.heap.size w w1 ∧ w.heap.size + 1 ≤ w1.heap.size) := ⟨hb1, Nat.le_trans HB.out.2 hkp.size⟩
      have HM : Hid (∀ W, It W b w.heap.size es clock (seen.push e.born) → W.rangeLeft b w.heap.size < wr.rangeLeft b w.heap.size) := fun W hW => by rw [hW.left, HI.out.left]; exact hlt
      have HA1 : Hid ((acc ++ [kp (ro e)]).Perm (((told es.toList (seen.push e.born)).map ro).map kp)) := ((List.perm_append_singleton _ _).trans (List.Perm.cons _ HA.out)).trans ((((told_more ((stamped_iff es clock).1 HS.out).2.1 he hsn).map ro).map kp).symm)
      clear hk0 hv0 hb1 hit hkp hlt hsn he HE HI HO HB HA
      generalize seen.push e.born = sn at *
      generalize ro e = x at *
      generalize rtC pa pc ca cc ra rc x = C at *
      go_wp2_with fail
      obtain ⟨W1, hW1⟩ : ∃ W1, W1 = w1.alloc (.cells #[.int .i64 x.peer, .int .u32 (x.A : Int), .int .i64 x.L] 65) := ⟨_, rfl⟩
      have hbk : Below w1.heap.size w1 W1 := by rw [hW1]; exact (Below.refl _ _).alloc (Nat.le_refl _) _
      have hsk : W1.heap.size = w1.heap.size + 1 := by rw [hW1]; simp
      obtain ⟨a8, c8, w5, hr5, ho5, hb5⟩ := OwnPx.snoc (p := kp x) (own_later HO1.out hbk : OwnPx W1 (w.heap.size + 1) (.slice a9 acc.length c9) acc) (by have := HB1.out.2; omega) (by have := HLN.out; omega)
      rw [hsk] at hr5
      have HR5 : Hid ((Builtin.append_ #[44, 44] 44 #[.slice a9 acc.length c9, .slice (some ⟨w1.heap.size + 1, 0, none⟩) 1 1]).run Try.prog (W1.alloc (.cells #[.int .u32 (x.A : Int), .int .i64 x.L] 29)) = .ok (.slice a8 (acc.length + 1) c8) w5) := hr5
      have HO5 := hide ho5
      have hb15 : Below (w.heap.size + 1) w1 w5 := (hbk.mono HB1.out.2).trans hb5
      have HI5 : Hid (It w5 b w.heap.size es clock sn) := HI1.out.keeps (F := fun y => w.heap.size + 1 ≤ y) ⟨hb15.os, hb15.tape, hb15.output, hb15.size, fun y _ hy => hb15.block y (by omega)⟩ (by omega) (by omega)
      have HB5 : Hid (Below w.heap.size w w5 ∧ w.heap.size + 1 ≤ w5.heap.size) := ⟨HB1.out.1.trans (hb15.mono (by omega)), Nat.le_trans HB1.out.2 hb15.size⟩
      have HLE : Hid ((acc ++ [kp x]).length = acc.length + 1) := by show List.length _ = _; simp
      rw [← hW1]
      clear hr5 ho5 hb15 hb5 hbk hsk hW1
      refine kept_app_intro _ _ _ _ _ _ (w' := w5) (by rfl) (by rfl) (by exact HR5.out) ?_
      clear HR5
      go_wp2
      exact ⟨⟨acc ++ [kp x], a8, c8, sn, by rw [HLE.out], by rw [HLE.out]; exact HO5, HI5, HB5, HA1⟩, HM.out _ HI5.out⟩
end
set_option maxHeartbeats 3200000 in
/-- SamePrefixes of the same ones. -/
theorem samepx_self (a1 a2 : Option Addr) (c1 c2 : Nat) (l : List (Nat × Int)) (w : World) (hl : l.length ≤ 100000) (h1 : PxRd w a1 l) (h2 : PxRd w a2 l) :
    Calls Try.prog 20 #[.slice a1 l.length c1, .slice a2 l.length c2] w fun e w' => e = .returned (.bool true) ∧ Below w.heap.size w w' := by
  have H1 := hide h1
  have H2 := hide h2
  clear h1 h2
  obtain ⟨n, hn⟩ : ∃ n, n = l.length := ⟨_, rfl⟩
  rw [← hn] at hl ⊢
  have HN := hide hn
  clear hn
  go_enter Try.func20, Try.ntmps20
  go_wp2
  go_loopw [5] (fun i wq => ∃ k : Nat, k ≤ n ∧ i = .int .i64 k ∧ Hid (Below w.heap.size w wq)) (fun i _ => n - (intOf i).toNat)
  case atStart => exact ⟨0, Nat.zero_le _, rfl, Below.refl _ _⟩
  case round =>
    obtain ⟨k, hk, rfl, HB⟩ := hrel
    by_cases hlt : k < n
    · have hkl : k < l.length := by rw [← HN.out]; exact hlt
      obtain ⟨g1, o1, rfl, x1⟩ := H1.out (by omega)
      obtain ⟨g2, o2, rfl, x2⟩ := H2.out (by omega)
      obtain ⟨c0, c1'⟩ := (x1.below HB.out) k _ (List.getElem?_eq_getElem hkl)
      obtain ⟨e0, e1⟩ := (x2.below HB.out) k _ (List.getElem?_eq_getElem hkl)
      generalize l[k] = p at *
      have z1 := World.block_lt_of_cell? wr _ c0
      have z2 := World.block_lt_of_cell? wr _ e0
      simp only at z1 z2
      have hk0 : (0 : Int) ≤ (k : Int) := Int.natCast_nonneg _
      have hkn : (k : Int) < (n : Int) := by omega
      clear x1 x2
      go_wp2_with fail
      go_quiet (fail)
      have HBd : Hid (Below w.heap.size w (wr.drewN nq)) := below_drewN HB.out nq
      generalize wr.drewN nq = wd at *
      go_wp2
      exact ⟨⟨k + 1, by omega, by go_num, HBd⟩, by simp [intOf]; omega⟩
    · go_wp2
      go_ret
      exact ⟨rfl, HB.out⟩
end Go.Proofs.Ytjlmkaeepeamkaa
/- The law's sample of layer 14. -/
namespace Go.Proofs.Ytjlmkaeepeamkaa
open Go.RowKit
set_option maxRecDepth 100000

section
variable {P : Program} {a : Act} {w w' : World} {K : Act → World → Prop} {Q : Exit → Act → World → Prop} {dst : Option Tmp} {ty : TypeId} {pos : String} {after : Array Edge} {gd : Option (Nat × Bool)}
theorem kept_build2_intro {t : TypeId} (i j : Nat) (x y : Operand) (p q v : Value) (hx : a.eval x = p) (hy : a.eval y = q) (hr : (Instr.build t #[(i, p), (j, q)]).run P w = .ok v w) (h : K (a.put dst v) w) : Kept P { dst := dst, op := .build t #[(i, x), (j, y)], type := ty, pos := pos, after := after, guard := gd } a w K Q := by
  unfold Kept Oper.wp execOp
  have e : (#[(i, x), (j, y)].map fun (i, x) => (i, a.eval x)) = #[(i, p), (j, q)] := by simp [hx, hy]
  simp only [e, Sem.run_bind, hr, Result.andThen_ok, Sem.run_pure]
  exact h
end
/-- The sample's route. -/
def sR : Rt := ⟨0, 0, 2, ⟨0, [], 0, 0, 0, [], []⟩, 1⟩
theorem run_sR (w : World) : (Instr.build 36 #[(1, .int .i64 2), (3, .int .i64 1)]).run Try.prog w = .ok (.agg (rtC none 0 none 0 none 0 sR)) w := by kernel_rfl
theorem rises_sR : RisesR [sR] := List.pairwise_singleton _ _
section
attribute [local go_sem ↓] keptR_load keptR_store keptR_box keptR_alloc keptR_build
set_option maxHeartbeats 6400000 in
theorem answers_any (w : World) : Calls Try.prog 7 #[] w fun e w' => e = .returned (.bool true) ∧ Below w.heap.size w w' := by
  go_enter Try.func7, Try.ntmps7
  go_wp2_with fail
  refine (new_any w).mono ?_
  rintro e w1 ⟨rfl, t1, b1⟩
  obtain ⟨b, hb⟩ : ∃ b, b = w.heap.size := ⟨_, rfl⟩
  have HB1 := hide b1
  rw [← hb] at t1 ⊢
  have HT1 := hide t1
  have HBB := hide hb
  clear t1 b1 hb
  go_wp2_with fail
  refine kept_build2_intro _ _ _ _ _ _ _ (by rfl) (by rfl) (run_sR _) ?_
  rw [← rtV_eq]
  go_wp2_with fail
  refine (put_any b [] none 0 none 0 none 0 sR w1 HT1.out (by decide) (atRd_no w1)).mono ?_
  rintro e w2 ⟨rfl, t2, k2⟩
  have HT2 : Hid (Tab w2 b [sR]) := t2
  have HB2 : Hid (Below w.heap.size w w2) := HB1.out.trans (k2.below w.heap.size HB1.out.size (fun x hx => by rw [hx, HBB.out]; exact Nat.le_refl _))
  clear t2 k2 HT1 HB1
  go_wp2_with fail
  refine (get_any b [sR] 0 0 2 w2 HT2.out).mono ?_
  rintro e w3 ⟨⟨pa, pc, ca, cc, ra, rc, r, rfl, lk⟩, b3⟩
  have hth : there 0 0 2 [sR] = true := by decide
  rw [hth] at lk ⊢
  have hr : r = sR := by
    rcases lk.2.2 with ⟨_, h, _⟩ | ⟨h, _⟩
    · exact List.mem_singleton.1 h
    · cases h
  subst hr
  have HT3 := hide (HT2.out.later b3)
  have HB3 : Hid (Below w.heap.size w w3) := HB2.out.trans (b3.mono HB2.out.size)
  clear lk hth b3 HT2 HB2
  rw [rtV_eq]
  go_wp2_with fail
  refine kept_alloc_intro _ (run_allocR _) ?_
  go_wp2_with fail
  refine kept_store_intro _ _ _ (.agg (rtC pa pc ca cc ra rc sR)) (by rfl) (by rfl) (run_storeR (Bl.new w3 zR) rfl (RC.rt _ _ _ _ _ _ _)) ?_
  have b4 : Below w3.heap.size w3 ((w3.alloc (.cells zR 36)).setCells w3.heap.size 0 (rtC pa pc ca cc ra rc sR).toList) := below_puts ((Below.refl _ _).alloc (Nat.le_refl _) _) (Nat.le_refl _) _
  have HX4 : Hid (Bl ((w3.alloc (.cells zR 36)).setCells w3.heap.size 0 (rtC pa pc ca cc ra rc sR).toList) w3.heap.size (rtC pa pc ca cc ra rc sR)) := (Bl.new w3 zR).put rfl
  generalize (w3.alloc (.cells zR 36)).setCells w3.heap.size 0 (rtC pa pc ca cc ra rc sR).toList = w4 at *
  have HT4 := hide (HT3.out.later b4)
  have HB4 : Hid (Below w.heap.size w w4) := HB3.out.trans (b4.mono HB3.out.size)
  have c4 : w4.cell? ⟨w3.heap.size, 10, none⟩ = some (.int .i64 1) := HX4.out.cell 10 rfl
  have z4 := HX4.out.lt
  clear b4 HT3 HB3 HX4
  go_wp2_with fail
  refine (len_any b [sR] w4 HT4.out).mono ?_
  rintro e w5 ⟨rfl, rfl⟩
  go_wp2_with fail
  refine (of_any b [sR] 2 w5 HT4.out rises_sR (by decide)).mono ?_
  rintro e w6 ⟨⟨v, rfl, o6⟩, b6⟩
  obtain ⟨a6, c6, rfl, _⟩ := o6.rd
  have HT6 := hide (HT4.out.later b6)
  have HB6 : Hid (Below w.heap.size w w6) := HB4.out.trans (b6.mono HB4.out.size)
  clear o6 b6 HT4 HB4 c4 z4
  have e6 : (ofL 2 [sR]).length = 1 := by decide
  rw [e6]
  clear e6
  go_wp2_with fail
  refine (for_any b [sR] 0 0 w6 HT6.out rises_sR (by decide)).mono ?_
  rintro e w7 ⟨⟨v, rfl, o7⟩, b7⟩
  obtain ⟨a7, c7, rfl, _⟩ := o7.rd
  have HT7 := hide (HT6.out.later b7)
  have HB7 : Hid (Below w.heap.size w w7) := HB6.out.trans (b7.mono HB6.out.size)
  clear o7 b7 HT6 HB6
  have e7 : (whatL 0 0 [sR]).length = 1 := by decide
  rw [e7]
  clear e7
  go_wp2_with fail
  refine (prefixes_any b [sR] w7 HT7.out rises_sR (by decide)).mono ?_
  rintro e w8 ⟨⟨a8, c8, rfl, o8⟩, b8⟩
  have HB8 : Hid (Below w.heap.size w w8) := HB7.out.trans (b8.mono HB7.out.size)
  have e8 : (allR [sR]).length = 1 := by decide
  rw [e8]
  clear e8 o8 b8
  go_wp2
  go_ret
  exact ⟨rfl, HB8.out⟩
end
end Go.Proofs.Ytjlmkaeepeamkaa
