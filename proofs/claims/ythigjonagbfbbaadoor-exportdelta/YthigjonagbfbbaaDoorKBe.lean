/- The document's Put. -/
import Derived.Test.YthigjonagbfbbaaDoorRlB
namespace Go.Proofs.YthigjonagbfbbaaDoor
open Go.RowKit
set_option maxRecDepth 100000

/-- Is a prefix ahead of another one? -/
def lessQ (A : Nat) (L : Int) (B : Nat) (M : Int) : Bool := decide (A < B) || (decide (A = B) && decide (L < M))
set_option maxHeartbeats 800000 in
theorem rless_any (A B : Nat) (L M : Int) (w : World) : Calls Tryd.prog 34 #[.agg #[.int .u32 (A : Int), .int .i64 L], .agg #[.int .u32 (B : Int), .int .i64 M]] w fun e w' => e = .returned (.bool (lessQ A L B M)) ∧ Below w.heap.size w w' := by
  have hb : ∀ p q, Below w.heap.size w ((w.alloc p).alloc q) := fun p q => ((Below.refl _ _).alloc (Nat.le_refl _) _).alloc (by simp) _
  by_cases h1 : A < B
  · have HD : Hid (lessQ A L B M = true) := by show lessQ _ _ _ _ = _; unfold lessQ; rw [decide_eq_true h1]; rfl
    rw [HD.out]
    have i1 : (A : Int) < (B : Int) := by omega
    go_enter Tryd.func34, Tryd.ntmps34
    go_wp2
    go_ret
    exact ⟨rfl, hb _ _⟩
  · have d1 : decide ((A : Int) < (B : Int)) = false := decide_eq_false (by omega)
    have d2 : decide (A < B) = false := decide_eq_false h1
    by_cases h2 : A = B
    · subst h2
      have HD : Hid (lessQ A L A M = decide (L < M)) := by show lessQ _ _ _ _ = _; unfold lessQ; rw [d2]; simp
      rw [HD.out]
      generalize hd : decide (L < M) = d at *
      go_enter Tryd.func34, Tryd.ntmps34
      go_wp2
      go_ret
      exact ⟨rfl, hb _ _⟩
    · have HD : Hid (lessQ A L B M = false) := by show lessQ _ _ _ _ = _; unfold lessQ; rw [d2, decide_eq_false h2]; rfl
      rw [HD.out]
      have f1 : (A == B) = false := by simpa using h2
      have f2 : ((A : Int) == (B : Int)) = false := by simp; omega
      go_enter Tryd.func34, Tryd.ntmps34
      go_wp2
      go_ret
      exact ⟨rfl, hb _ _⟩
/-- Of the same prefix and peer? -/
def sameK (r x : Rt) : Bool := decide (x.A = r.A) && decide (x.L = r.L) && decide (x.peer = r.peer)
/-- Does r come ahead of x? -/
def aheadK (r x : Rt) : Bool := lessQ r.A r.L x.A x.L || (decide (r.A = x.A) && decide (r.L = x.L) && decide (r.peer < x.peer))
def putS (r : Rt) (s : List Rt × Bool) (x : Rt) : List Rt × Bool :=
  if s.2 = false ∧ (sameK r x = true ∨ aheadK r x = true) then (if sameK r x then s.1 ++ [r] else s.1 ++ [r] ++ [x], true) else (if sameK r x then s.1 else s.1 ++ [x], s.2)
def putF (r : Rt) (l : List Rt) : List Rt × Bool := l.foldl (putS r) ([], false)
def putL (r : Rt) (l : List Rt) : List Rt := if (putF r l).2 then (putF r l).1 else (putF r l).1 ++ [r]
theorem putF_snoc (r : Rt) (l : List Rt) (x : Rt) : putF r (l ++ [x]) = putS r (putF r l) x := by unfold putF; rw [List.foldl_append]; rfl
theorem putF_length (r : Rt) (l : List Rt) : (putF r l).1.length ≤ 2 * l.length := by
  have key : ∀ (l : List Rt) (s : List Rt × Bool), (l.foldl (putS r) s).1.length ≤ s.1.length + 2 * l.length := by
    intro l
    induction l with
    | nil => intro s; simp
    | cons x l ih =>
      intro s
      rw [List.foldl_cons]
      have h1 := ih (putS r s x)
      have h2 : (putS r s x).1.length ≤ s.1.length + 2 := by
        unfold putS
        split <;> (dsimp only; split <;> simp <;> omega)
      simp only [List.length_cons]
      omega
  have := key l ([], false)
  simpa [putF] using this
section
attribute [local go_sem ↓] keptR_load keptR_one keptR_store keptR_alloc keptR_box kept_app
set_option maxHeartbeats 12800000 in
theorem rput_some (b off n c : Nat) (l : List Rt) (r : Rt) (pr : Option Addr) (prc : Nat) (cr : Option Addr) (crc : Nat) (rr : Option Addr) (rrc : Nat) (w : World) (hl : l.length = n) (hn : n ≤ 100000) (hr : AtRd w pr cr rr r.att) (h : ∀ i r, l[i]? = some r → ∃ pa pc ca cc ra rc, RtAt w b (off + i * 11) r pa pc ca cc ra rc) :
    Calls Tryd.prog 19 #[.slice (some ⟨b, off, none⟩) n c, rtV pr prc cr crc rr rrc r] w fun e w' => (∃ v, e = .returned v ∧ OwnRts w w.heap.size w' v (putL r l)) ∧ Below w.heap.size w w' := by
  have HL := hide hl
  have HH := hide h
  have HAR := hide hr
  have HB1 : Hid (Below w.heap.size w (w.alloc (.cells (rtC pr prc cr crc rr rrc r) 36))) := (Below.refl _ _).alloc (Nat.le_refl _) _
  have HX1 : Hid (Bl (w.alloc (.cells (rtC pr prc cr crc rr rrc r) 36)) w.heap.size (rtC pr prc cr crc rr rrc r)) := Bl.new w _
  have hz1 : w.heap.size < (w.alloc (.cells (rtC pr prc cr crc rr rrc r) 36)).heap.size := by simp
  clear hl h hr
  rw [rtV_eq]
  go_enter Tryd.func19, Tryd.ntmps19
  go_wp2_with fail
  refine kept_box_intro _ _ _ (by rfl) (run_boxR _ w) ?_
  generalize w.alloc (.cells (rtC pr prc cr crc rr rrc r) 36) = w1 at *
  go_wp2_with fail
  go_loopw [5, 6, 7] (fun v p i wq => ∃ (k : Nat) (a9 : Option Addr) (c9 : Nat), k ≤ n ∧ i = .int .i64 k ∧ v = .slice a9 (putF r (l.take k)).1.length c9 ∧ p = .bool (putF r (l.take k)).2 ∧ Hid (OwnRts w w1.heap.size wq (.slice a9 (putF r (l.take k)).1.length c9) (putF r (l.take k)).1) ∧ Hid (Below w1.heap.size w1 wq)) (fun _ _ i _ => n - (intOf i).toNat)
  case atStart => exact ⟨0, none, 0, Nat.zero_le _, rfl, rfl, rfl, OwnRts.nil _ _ _, Below.refl _ _⟩
  case round =>
    obtain ⟨k, a9, c9, hk, rfl, rfl, rfl, HO, HB⟩ := hrel
    by_cases hlt : k < n
    · have hkp : k < l.length := by rw [HL.out]; exact hlt
      obtain ⟨pa, pc, ca, cc, ra, rc, r1⟩ := HH.out k _ (List.getElem?_eq_getElem hkp)
      have HA : Hid (AtRd w pa ca ra (l[k]).att) := r1.2
      have R1 := hide ((r1.below HB1.out).below HB.out)
      have HT : Hid (putF r (l.take (k + 1)) = putS r (putF r (l.take k)) l[k]) := by show putF _ _ = _; rw [List.take_succ_eq_append_getElem hkp, putF_snoc]
      have HLE : Hid ((putF r (l.take k)).1.length ≤ 200000) := by show List.length _ ≤ _; have := putF_length r (l.take k); have := List.length_take_le k l; omega
      generalize l[k] = x at *
      generalize hP : putF r (l.take k) = P at *
      obtain ⟨o, pl⟩ := P
      simp only at HO HLE ⊢
      clear r1 hP
      have zb := World.block_lt_of_cell? wr _ (R1.out.1 0 _ rfl)
      simp only at zb
      have hk0 : (0 : Int) ≤ (k : Int) := Int.natCast_nonneg _
      have hkn : (k : Int) < (n : Int) := by omega
      go_wp2_with fail
      refine kept_load_intro _ _ _ (by rfl) (run_loadR_at R1.out) ?_
      go_wp2_with fail
      refine kept_alloc_intro _ (run_allocR _) ?_
      go_wp2_with fail
      refine kept_store_intro _ _ _ _ (by rfl) (by rfl) (run_storeR (Bl.new wr zR) rfl (RC.rt pa pc ca cc ra rc x)) ?_
      have hbx : Below wr.heap.size wr ((wr.alloc (.cells zR 36)).setCells wr.heap.size 0 (rtC pa pc ca cc ra rc x).toList) := below_puts ((Below.refl _ _).alloc (Nat.le_refl _) _) (Nat.le_refl _) _
      have HYx : Hid (Bl ((wr.alloc (.cells zR 36)).setCells wr.heap.size 0 (rtC pa pc ca cc ra rc x).toList) wr.heap.size (rtC pa pc ca cc ra rc x)) := (Bl.new wr zR).put rfl
      have HNB := hide (HO.out.block wr.heap.size (.inl (Nat.le_refl _)))
      have HBx : Hid (Below w1.heap.size w1 _) := HB.out.trans (hbx.mono HB.out.size)
      have HOx := hide (HO.out.later hbx)
      have HXx := hide (HX1.out.below HBx.out)
      obtain ⟨Y, hY⟩ : ∃ Y, Y = wr.heap.size := ⟨_, rfl⟩
      rw [← hY] at HYx HBx HOx HXx HNB ⊢
      generalize (wr.alloc (.cells zR 36)).setCells Y 0 (rtC pa pc ca cc ra rc x).toList = wx at *
      clear hbx HO HB R1 hY zb
      by_cases eA : x.A = r.A
      · by_cases eL : x.L = r.L
        · by_cases eP : x.peer = r.peer
          · have HSM : Hid (sameK r x = true) := by show sameK _ _ = _; unfold sameK; rw [decide_eq_true eA, decide_eq_true eL, decide_eq_true eP]; rfl
            cases pl with
            | true =>
              have HS : Hid (putS r (o, true) x = (o, true)) := by
                show putS _ _ _ = _
                unfold putS
                rw [if_neg (fun h => by cases h.1), HSM.out]
                rfl
              have y0 : wx.cell? ⟨Y, 0, none⟩ = some (.int .u32 (x.A : Int)) := HYx.out.cell 0 rfl
              have y1 : wx.cell? ⟨Y, 1, none⟩ = some (.int .i64 x.L) := HYx.out.cell 1 rfl
              have y2 : wx.cell? ⟨Y, 2, none⟩ = some (.int .i64 x.peer) := HYx.out.cell 2 rfl
              have t0 : wx.cell? ⟨w.heap.size, 0, none⟩ = some (.int .u32 (r.A : Int)) := HXx.out.cell 0 rfl
              have t1 : wx.cell? ⟨w.heap.size, 1, none⟩ = some (.int .i64 r.L) := HXx.out.cell 1 rfl
              have t2 : wx.cell? ⟨w.heap.size, 2, none⟩ = some (.int .i64 r.peer) := HXx.out.cell 2 rfl
              have zY := HYx.out.lt
              have zX := HXx.out.lt
              go_wp2
              exact ⟨⟨k + 1, a9, c9, by omega, by go_num, by (rw [HT.out, HS.out]) <;> first | rfl | simp, by rw [HT.out, HS.out], by show OwnRts _ _ _ _ _; rw [HT.out, HS.out]; first | exact HOx.out | (have h9 := HOx.out; simpa using h9), HBx⟩, by simp [intOf]; omega⟩
            | false =>
              have HS : Hid (putS r (o, false) x = (o ++ [r], true)) := by
                show putS _ _ _ = _
                unfold putS
                rw [if_pos ⟨rfl, .inl HSM.out⟩, HSM.out]
                rfl
              have y0 : wx.cell? ⟨Y, 0, none⟩ = some (.int .u32 (x.A : Int)) := HYx.out.cell 0 rfl
              have y1 : wx.cell? ⟨Y, 1, none⟩ = some (.int .i64 x.L) := HYx.out.cell 1 rfl
              have y2 : wx.cell? ⟨Y, 2, none⟩ = some (.int .i64 x.peer) := HYx.out.cell 2 rfl
              have t0 : wx.cell? ⟨w.heap.size, 0, none⟩ = some (.int .u32 (r.A : Int)) := HXx.out.cell 0 rfl
              have t1 : wx.cell? ⟨w.heap.size, 1, none⟩ = some (.int .i64 r.L) := HXx.out.cell 1 rfl
              have t2 : wx.cell? ⟨w.heap.size, 2, none⟩ = some (.int .i64 r.peer) := HXx.out.cell 2 rfl
              have zY := HYx.out.lt
              have zX := HXx.out.lt
              obtain ⟨a8, c8, w8, hr8, ho8, hb8, hbl8⟩ := HOx.out.snoc (pa := pr) (pc := prc) (ca := cr) (cc := crc) (ra := rr) (rc := rrc) (r := r) HBx.out.size HAR.out (by have := HLE.out; first | omega | (simp only [List.length_append, List.length_cons, List.length_nil]; omega))
              have HR8 := hide hr8
              have HO8 := hide ho8
              have HB8 : Hid (Below w1.heap.size w1 w8) := HBx.out.trans hb8
              have HX8 := hide ((HX1.out).below HB8.out)
              clear hr8 ho8 hb8 hbl8
              go_wp2_with fail
              refine kept_load_intro _ _ _ (by rfl) (run_loadR HXx.out (RC.rt _ _ _ _ _ _ _)) ?_
              go_wp2_with fail
              refine keptR_one_intro _ _ _ (by rfl) (run_one _ _ _ _ _ _ _ _) ?_
              go_wp2_with fail
              refine kept_app_intro _ _ _ _ _ _ (w' := w8) (by rfl) (by rfl) (by exact HR8.out) ?_
              clear HR8
              clear y0 y1 y2 t0 t1 t2 zY zX
              have zY := HX8.out.lt
              go_wp2
              exact ⟨⟨k + 1, a8, c8, by omega, by go_num, by (rw [HT.out, HS.out]) <;> first | rfl | simp, by rw [HT.out, HS.out], by show OwnRts _ _ _ _ _; rw [HT.out, HS.out]; first | exact HO8.out | (have h9 := HO8.out; simpa using h9), HB8⟩, by simp [intOf]; omega⟩
          · have HSM : Hid (sameK r x = false) := by show sameK _ _ = _; unfold sameK; rw [decide_eq_false eP, Bool.and_false]
            have g1 : (x.peer == r.peer) = false := by simpa using eP
            have HLS : Hid (lessQ r.A r.L x.A x.L = false) := by show lessQ _ _ _ _ = _; unfold lessQ; rw [eA, eL, decide_eq_false (by omega), decide_eq_false (show ¬ r.L < r.L by omega), Bool.and_false]; rfl
            have eA2 : Hid (r.A = x.A) := eA.symm
            have eL2 : Hid (r.L = x.L) := eL.symm
            clear eP
            cases pl with
            | true =>
              have HS : Hid (putS r (o, true) x = (o ++ [x], true)) := by
                show putS _ _ _ = _
                unfold putS
                rw [if_neg (fun h => by cases h.1), HSM.out]
                rfl
              have y0 : wx.cell? ⟨Y, 0, none⟩ = some (.int .u32 (x.A : Int)) := HYx.out.cell 0 rfl
              have y1 : wx.cell? ⟨Y, 1, none⟩ = some (.int .i64 x.L) := HYx.out.cell 1 rfl
              have y2 : wx.cell? ⟨Y, 2, none⟩ = some (.int .i64 x.peer) := HYx.out.cell 2 rfl
              have t0 : wx.cell? ⟨w.heap.size, 0, none⟩ = some (.int .u32 (r.A : Int)) := HXx.out.cell 0 rfl
              have t1 : wx.cell? ⟨w.heap.size, 1, none⟩ = some (.int .i64 r.L) := HXx.out.cell 1 rfl
              have t2 : wx.cell? ⟨w.heap.size, 2, none⟩ = some (.int .i64 r.peer) := HXx.out.cell 2 rfl
              have zY := HYx.out.lt
              have zX := HXx.out.lt
              obtain ⟨a7, c7, w7, hr7, ho7, hb7, hbl7⟩ := HOx.out.snoc (pa := pa) (pc := pc) (ca := ca) (cc := cc) (ra := ra) (rc := rc) (r := x) HBx.out.size HA.out (by have := HLE.out; first | omega | (simp only [List.length_append, List.length_cons, List.length_nil]; omega))
              have HR7 := hide hr7
              have HO7 := hide ho7
              have HB7 : Hid (Below w1.heap.size w1 w7) := HBx.out.trans hb7
              have HX7 := hide ((HX1.out).below HB7.out)
              clear hr7 ho7 hb7 hbl7
              go_wp2_with fail
              refine kept_load_intro _ _ _ (by rfl) (run_loadR HYx.out (RC.rt _ _ _ _ _ _ _)) ?_
              go_wp2_with fail
              refine keptR_one_intro _ _ _ (by rfl) (run_one _ _ _ _ _ _ _ _) ?_
              go_wp2_with fail
              refine kept_app_intro _ _ _ _ _ _ (w' := w7) (by rfl) (by rfl) (by exact HR7.out) ?_
              clear HR7
              go_wp2
              exact ⟨⟨k + 1, a7, c7, by omega, by go_num, by (rw [HT.out, HS.out]) <;> first | rfl | simp, by rw [HT.out, HS.out], by show OwnRts _ _ _ _ _; rw [HT.out, HS.out]; first | exact HO7.out | (have h9 := HO7.out; simpa using h9), HB7⟩, by simp [intOf]; omega⟩
            | false =>
              by_cases hq : r.peer < x.peer
              · have HAH : Hid (aheadK r x = true) := by show aheadK _ _ = _; unfold aheadK; rw [HLS.out, decide_eq_true eA2.out, decide_eq_true eL2.out, decide_eq_true hq]; rfl
                have g2 : decide (r.peer < x.peer) = true := decide_eq_true hq
                clear eA2 eL2
                have HS : Hid (putS r (o, false) x = (o ++ [r] ++ [x], true)) := by
                  show putS _ _ _ = _
                  unfold putS
                  rw [if_pos ⟨rfl, .inr HAH.out⟩, HSM.out]
                  rfl
                have y0 : wx.cell? ⟨Y, 0, none⟩ = some (.int .u32 (x.A : Int)) := HYx.out.cell 0 rfl
                have y1 : wx.cell? ⟨Y, 1, none⟩ = some (.int .i64 x.L) := HYx.out.cell 1 rfl
                have y2 : wx.cell? ⟨Y, 2, none⟩ = some (.int .i64 x.peer) := HYx.out.cell 2 rfl
                have t0 : wx.cell? ⟨w.heap.size, 0, none⟩ = some (.int .u32 (r.A : Int)) := HXx.out.cell 0 rfl
                have t1 : wx.cell? ⟨w.heap.size, 1, none⟩ = some (.int .i64 r.L) := HXx.out.cell 1 rfl
                have t2 : wx.cell? ⟨w.heap.size, 2, none⟩ = some (.int .i64 r.peer) := HXx.out.cell 2 rfl
                have zY := HYx.out.lt
                have zX := HXx.out.lt
                have HLR := HLS
                rw [eA, eL] at HLR
                go_wp2_with fail
                refine (rless_any r.A r.A r.L r.L wx).mono ?_
                rw [HLR.out]
                rintro e wl ⟨rfl, hbl⟩
                have HBl : Hid (Below w1.heap.size w1 wl) := HBx.out.trans (hbl.mono HBx.out.size)
                have HOl := hide (HOx.out.later hbl)
                have HXl := hide (HXx.out.below hbl)
                have HYl := hide (HYx.out.below hbl)
                clear hbl
                clear y0 y1 y2 t0 t1 t2 zY zX
                have y0 : wl.cell? ⟨Y, 0, none⟩ = some (.int .u32 (x.A : Int)) := HYl.out.cell 0 rfl
                have y1 : wl.cell? ⟨Y, 1, none⟩ = some (.int .i64 x.L) := HYl.out.cell 1 rfl
                have y2 : wl.cell? ⟨Y, 2, none⟩ = some (.int .i64 x.peer) := HYl.out.cell 2 rfl
                have t0 : wl.cell? ⟨w.heap.size, 0, none⟩ = some (.int .u32 (r.A : Int)) := HXl.out.cell 0 rfl
                have t1 : wl.cell? ⟨w.heap.size, 1, none⟩ = some (.int .i64 r.L) := HXl.out.cell 1 rfl
                have t2 : wl.cell? ⟨w.heap.size, 2, none⟩ = some (.int .i64 r.peer) := HXl.out.cell 2 rfl
                have zY := HYl.out.lt
                have zX := HXl.out.lt
                obtain ⟨a8, c8, w8, hr8, ho8, hb8, hbl8⟩ := HOl.out.snoc (pa := pr) (pc := prc) (ca := cr) (cc := crc) (ra := rr) (rc := rrc) (r := r) HBl.out.size HAR.out (by have := HLE.out; first | omega | (simp only [List.length_append, List.length_cons, List.length_nil]; omega))
                have HR8 := hide hr8
                have HO8 := hide ho8
                have HB8 : Hid (Below w1.heap.size w1 w8) := HBl.out.trans hb8
                have HX8 := hide ((HX1.out).below HB8.out)
                have HY8 := hide (hbl8 _ _ HYl.out HNB.out)
                clear hr8 ho8 hb8 hbl8
                go_wp2_with fail
                refine kept_load_intro _ _ _ (by rfl) (run_loadR HXl.out (RC.rt _ _ _ _ _ _ _)) ?_
                go_wp2_with fail
                refine keptR_one_intro _ _ _ (by rfl) (run_one _ _ _ _ _ _ _ _) ?_
                go_wp2_with fail
                refine kept_app_intro _ _ _ _ _ _ (w' := w8) (by rfl) (by rfl) (by exact HR8.out) ?_
                clear HR8
                clear y0 y1 y2 t0 t1 t2 zY zX
                have zY := HX8.out.lt
                obtain ⟨a7, c7, w7, hr7, ho7, hb7, hbl7⟩ := HO8.out.snoc (pa := pa) (pc := pc) (ca := ca) (cc := cc) (ra := ra) (rc := rc) (r := x) HB8.out.size HA.out (by have := HLE.out; first | omega | (simp only [List.length_append, List.length_cons, List.length_nil]; omega))
                have HR7 := hide hr7
                have HO7 := hide ho7
                have HB7 : Hid (Below w1.heap.size w1 w7) := HB8.out.trans hb7
                have HX7 := hide ((HX1.out).below HB7.out)
                clear hr7 ho7 hb7 hbl7
                go_wp2_with fail
                refine kept_load_intro _ _ _ (by rfl) (run_loadR HY8.out (RC.rt _ _ _ _ _ _ _)) ?_
                go_wp2_with fail
                refine keptR_one_intro _ _ _ (by rfl) (run_one _ _ _ _ _ _ _ _) ?_
                go_wp2_with fail
                refine kept_app_intro _ _ _ _ _ _ (w' := w7) (by rfl) (by rfl) (by exact HR7.out) ?_
                clear HR7
                go_wp2
                exact ⟨⟨k + 1, a7, c7, by omega, by go_num, by (rw [HT.out, HS.out]) <;> first | rfl | simp, by rw [HT.out, HS.out], by show OwnRts _ _ _ _ _; rw [HT.out, HS.out]; first | exact HO7.out | (have h9 := HO7.out; simpa using h9), HB7⟩, by simp [intOf]; omega⟩
              · have HAH : Hid (aheadK r x = false) := by show aheadK _ _ = _; unfold aheadK; rw [HLS.out, decide_eq_false hq, Bool.and_false]; rfl
                have g2 : decide (r.peer < x.peer) = false := decide_eq_false hq
                clear eA2 eL2 hq
                have HS : Hid (putS r (o, false) x = (o ++ [x], false)) := by
                  show putS _ _ _ = _
                  unfold putS
                  rw [if_neg (fun h => by rcases h.2 with h9 | h9; rw [HSM.out] at h9; cases h9; rw [HAH.out] at h9; cases h9), HSM.out]
                  rfl
                have y0 : wx.cell? ⟨Y, 0, none⟩ = some (.int .u32 (x.A : Int)) := HYx.out.cell 0 rfl
                have y1 : wx.cell? ⟨Y, 1, none⟩ = some (.int .i64 x.L) := HYx.out.cell 1 rfl
                have y2 : wx.cell? ⟨Y, 2, none⟩ = some (.int .i64 x.peer) := HYx.out.cell 2 rfl
                have t0 : wx.cell? ⟨w.heap.size, 0, none⟩ = some (.int .u32 (r.A : Int)) := HXx.out.cell 0 rfl
                have t1 : wx.cell? ⟨w.heap.size, 1, none⟩ = some (.int .i64 r.L) := HXx.out.cell 1 rfl
                have t2 : wx.cell? ⟨w.heap.size, 2, none⟩ = some (.int .i64 r.peer) := HXx.out.cell 2 rfl
                have zY := HYx.out.lt
                have zX := HXx.out.lt
                have HLR := HLS
                rw [eA, eL] at HLR
                go_wp2_with fail
                refine (rless_any r.A r.A r.L r.L wx).mono ?_
                rw [HLR.out]
                rintro e wl ⟨rfl, hbl⟩
                have HBl : Hid (Below w1.heap.size w1 wl) := HBx.out.trans (hbl.mono HBx.out.size)
                have HOl := hide (HOx.out.later hbl)
                have HXl := hide (HXx.out.below hbl)
                have HYl := hide (HYx.out.below hbl)
                clear hbl
                clear y0 y1 y2 t0 t1 t2 zY zX
                have y0 : wl.cell? ⟨Y, 0, none⟩ = some (.int .u32 (x.A : Int)) := HYl.out.cell 0 rfl
                have y1 : wl.cell? ⟨Y, 1, none⟩ = some (.int .i64 x.L) := HYl.out.cell 1 rfl
                have y2 : wl.cell? ⟨Y, 2, none⟩ = some (.int .i64 x.peer) := HYl.out.cell 2 rfl
                have t0 : wl.cell? ⟨w.heap.size, 0, none⟩ = some (.int .u32 (r.A : Int)) := HXl.out.cell 0 rfl
                have t1 : wl.cell? ⟨w.heap.size, 1, none⟩ = some (.int .i64 r.L) := HXl.out.cell 1 rfl
                have t2 : wl.cell? ⟨w.heap.size, 2, none⟩ = some (.int .i64 r.peer) := HXl.out.cell 2 rfl
                have zY := HYl.out.lt
                have zX := HXl.out.lt
                obtain ⟨a7, c7, w7, hr7, ho7, hb7, hbl7⟩ := HOl.out.snoc (pa := pa) (pc := pc) (ca := ca) (cc := cc) (ra := ra) (rc := rc) (r := x) HBl.out.size HA.out (by have := HLE.out; first | omega | (simp only [List.length_append, List.length_cons, List.length_nil]; omega))
                have HR7 := hide hr7
                have HO7 := hide ho7
                have HB7 : Hid (Below w1.heap.size w1 w7) := HBl.out.trans hb7
                have HX7 := hide ((HX1.out).below HB7.out)
                clear hr7 ho7 hb7 hbl7
                go_wp2_with fail
                refine kept_load_intro _ _ _ (by rfl) (run_loadR HYl.out (RC.rt _ _ _ _ _ _ _)) ?_
                go_wp2_with fail
                refine keptR_one_intro _ _ _ (by rfl) (run_one _ _ _ _ _ _ _ _) ?_
                go_wp2_with fail
                refine kept_app_intro _ _ _ _ _ _ (w' := w7) (by rfl) (by rfl) (by exact HR7.out) ?_
                clear HR7
                go_wp2
                exact ⟨⟨k + 1, a7, c7, by omega, by go_num, by (rw [HT.out, HS.out]) <;> first | rfl | simp, by rw [HT.out, HS.out], by show OwnRts _ _ _ _ _; rw [HT.out, HS.out]; first | exact HO7.out | (have h9 := HO7.out; simpa using h9), HB7⟩, by simp [intOf]; omega⟩
        · have HSM : Hid (sameK r x = false) := by show sameK _ _ = _; unfold sameK; rw [decide_eq_false eL, Bool.and_false]; rfl
          have g1 : (x.L == r.L) = false := by simpa using eL
          have g3 : (r.L == x.L) = false := by simpa using (fun h : r.L = x.L => eL h.symm)
          have HLA : Hid (lessQ r.A r.L x.A x.L = decide (r.L < x.L)) := by show lessQ _ _ _ _ = _; unfold lessQ; rw [eA, decide_eq_false (show ¬ r.A < r.A by omega), decide_eq_true rfl]; rfl
          have HNE : Hid (decide (r.L = x.L) = false) := decide_eq_false (fun h => eL h.symm)
          clear eL
          cases pl with
          | true =>
            have HS : Hid (putS r (o, true) x = (o ++ [x], true)) := by
              show putS _ _ _ = _
              unfold putS
              rw [if_neg (fun h => by cases h.1), HSM.out]
              rfl
            have y0 : wx.cell? ⟨Y, 0, none⟩ = some (.int .u32 (x.A : Int)) := HYx.out.cell 0 rfl
            have y1 : wx.cell? ⟨Y, 1, none⟩ = some (.int .i64 x.L) := HYx.out.cell 1 rfl
            have y2 : wx.cell? ⟨Y, 2, none⟩ = some (.int .i64 x.peer) := HYx.out.cell 2 rfl
            have t0 : wx.cell? ⟨w.heap.size, 0, none⟩ = some (.int .u32 (r.A : Int)) := HXx.out.cell 0 rfl
            have t1 : wx.cell? ⟨w.heap.size, 1, none⟩ = some (.int .i64 r.L) := HXx.out.cell 1 rfl
            have t2 : wx.cell? ⟨w.heap.size, 2, none⟩ = some (.int .i64 r.peer) := HXx.out.cell 2 rfl
            have zY := HYx.out.lt
            have zX := HXx.out.lt
            obtain ⟨a7, c7, w7, hr7, ho7, hb7, hbl7⟩ := HOx.out.snoc (pa := pa) (pc := pc) (ca := ca) (cc := cc) (ra := ra) (rc := rc) (r := x) HBx.out.size HA.out (by have := HLE.out; first | omega | (simp only [List.length_append, List.length_cons, List.length_nil]; omega))
            have HR7 := hide hr7
            have HO7 := hide ho7
            have HB7 : Hid (Below w1.heap.size w1 w7) := HBx.out.trans hb7
            have HX7 := hide ((HX1.out).below HB7.out)
            clear hr7 ho7 hb7 hbl7
            go_wp2_with fail
            refine kept_load_intro _ _ _ (by rfl) (run_loadR HYx.out (RC.rt _ _ _ _ _ _ _)) ?_
            go_wp2_with fail
            refine keptR_one_intro _ _ _ (by rfl) (run_one _ _ _ _ _ _ _ _) ?_
            go_wp2_with fail
            refine kept_app_intro _ _ _ _ _ _ (w' := w7) (by rfl) (by rfl) (by exact HR7.out) ?_
            clear HR7
            go_wp2
            exact ⟨⟨k + 1, a7, c7, by omega, by go_num, by (rw [HT.out, HS.out]) <;> first | rfl | simp, by rw [HT.out, HS.out], by show OwnRts _ _ _ _ _; rw [HT.out, HS.out]; first | exact HO7.out | (have h9 := HO7.out; simpa using h9), HB7⟩, by simp [intOf]; omega⟩
          | false =>
            by_cases hq : r.L < x.L
            · have HLS : Hid (lessQ r.A r.L x.A x.L = true) := by show lessQ _ _ _ _ = _; rw [HLA.out, decide_eq_true hq]
              have HAH : Hid (aheadK r x = true) := by show aheadK _ _ = _; unfold aheadK; rw [HLS.out]; rfl
              clear hq
              have HS : Hid (putS r (o, false) x = (o ++ [r] ++ [x], true)) := by
                show putS _ _ _ = _
                unfold putS
                rw [if_pos ⟨rfl, .inr HAH.out⟩, HSM.out]
                rfl
              have y0 : wx.cell? ⟨Y, 0, none⟩ = some (.int .u32 (x.A : Int)) := HYx.out.cell 0 rfl
              have y1 : wx.cell? ⟨Y, 1, none⟩ = some (.int .i64 x.L) := HYx.out.cell 1 rfl
              have y2 : wx.cell? ⟨Y, 2, none⟩ = some (.int .i64 x.peer) := HYx.out.cell 2 rfl
              have t0 : wx.cell? ⟨w.heap.size, 0, none⟩ = some (.int .u32 (r.A : Int)) := HXx.out.cell 0 rfl
              have t1 : wx.cell? ⟨w.heap.size, 1, none⟩ = some (.int .i64 r.L) := HXx.out.cell 1 rfl
              have t2 : wx.cell? ⟨w.heap.size, 2, none⟩ = some (.int .i64 r.peer) := HXx.out.cell 2 rfl
              have zY := HYx.out.lt
              have zX := HXx.out.lt
              have HLR := HLS
              rw [eA] at HLR
              go_wp2_with fail
              refine (rless_any r.A r.A r.L x.L wx).mono ?_
              rw [HLR.out]
              rintro e wl ⟨rfl, hbl⟩
              have HBl : Hid (Below w1.heap.size w1 wl) := HBx.out.trans (hbl.mono HBx.out.size)
              have HOl := hide (HOx.out.later hbl)
              have HXl := hide (HXx.out.below hbl)
              have HYl := hide (HYx.out.below hbl)
              clear hbl
              clear y0 y1 y2 t0 t1 t2 zY zX
              have y0 : wl.cell? ⟨Y, 0, none⟩ = some (.int .u32 (x.A : Int)) := HYl.out.cell 0 rfl
              have y1 : wl.cell? ⟨Y, 1, none⟩ = some (.int .i64 x.L) := HYl.out.cell 1 rfl
              have y2 : wl.cell? ⟨Y, 2, none⟩ = some (.int .i64 x.peer) := HYl.out.cell 2 rfl
              have t0 : wl.cell? ⟨w.heap.size, 0, none⟩ = some (.int .u32 (r.A : Int)) := HXl.out.cell 0 rfl
              have t1 : wl.cell? ⟨w.heap.size, 1, none⟩ = some (.int .i64 r.L) := HXl.out.cell 1 rfl
              have t2 : wl.cell? ⟨w.heap.size, 2, none⟩ = some (.int .i64 r.peer) := HXl.out.cell 2 rfl
              have zY := HYl.out.lt
              have zX := HXl.out.lt
              obtain ⟨a8, c8, w8, hr8, ho8, hb8, hbl8⟩ := HOl.out.snoc (pa := pr) (pc := prc) (ca := cr) (cc := crc) (ra := rr) (rc := rrc) (r := r) HBl.out.size HAR.out (by have := HLE.out; first | omega | (simp only [List.length_append, List.length_cons, List.length_nil]; omega))
              have HR8 := hide hr8
              have HO8 := hide ho8
              have HB8 : Hid (Below w1.heap.size w1 w8) := HBl.out.trans hb8
              have HX8 := hide ((HX1.out).below HB8.out)
              have HY8 := hide (hbl8 _ _ HYl.out HNB.out)
              clear hr8 ho8 hb8 hbl8
              go_wp2_with fail
              refine kept_load_intro _ _ _ (by rfl) (run_loadR HXl.out (RC.rt _ _ _ _ _ _ _)) ?_
              go_wp2_with fail
              refine keptR_one_intro _ _ _ (by rfl) (run_one _ _ _ _ _ _ _ _) ?_
              go_wp2_with fail
              refine kept_app_intro _ _ _ _ _ _ (w' := w8) (by rfl) (by rfl) (by exact HR8.out) ?_
              clear HR8
              clear y0 y1 y2 t0 t1 t2 zY zX
              have zY := HX8.out.lt
              obtain ⟨a7, c7, w7, hr7, ho7, hb7, hbl7⟩ := HO8.out.snoc (pa := pa) (pc := pc) (ca := ca) (cc := cc) (ra := ra) (rc := rc) (r := x) HB8.out.size HA.out (by have := HLE.out; first | omega | (simp only [List.length_append, List.length_cons, List.length_nil]; omega))
              have HR7 := hide hr7
              have HO7 := hide ho7
              have HB7 : Hid (Below w1.heap.size w1 w7) := HB8.out.trans hb7
              have HX7 := hide ((HX1.out).below HB7.out)
              clear hr7 ho7 hb7 hbl7
              go_wp2_with fail
              refine kept_load_intro _ _ _ (by rfl) (run_loadR HY8.out (RC.rt _ _ _ _ _ _ _)) ?_
              go_wp2_with fail
              refine keptR_one_intro _ _ _ (by rfl) (run_one _ _ _ _ _ _ _ _) ?_
              go_wp2_with fail
              refine kept_app_intro _ _ _ _ _ _ (w' := w7) (by rfl) (by rfl) (by exact HR7.out) ?_
              clear HR7
              go_wp2
              exact ⟨⟨k + 1, a7, c7, by omega, by go_num, by (rw [HT.out, HS.out]) <;> first | rfl | simp, by rw [HT.out, HS.out], by show OwnRts _ _ _ _ _; rw [HT.out, HS.out]; first | exact HO7.out | (have h9 := HO7.out; simpa using h9), HB7⟩, by simp [intOf]; omega⟩
            · have HLS : Hid (lessQ r.A r.L x.A x.L = false) := by show lessQ _ _ _ _ = _; rw [HLA.out, decide_eq_false hq]
              have HAH : Hid (aheadK r x = false) := by show aheadK _ _ = _; unfold aheadK; rw [HLS.out, HNE.out, Bool.and_false]; rfl
              clear hq
              have HS : Hid (putS r (o, false) x = (o ++ [x], false)) := by
                show putS _ _ _ = _
                unfold putS
                rw [if_neg (fun h => by rcases h.2 with h9 | h9; rw [HSM.out] at h9; cases h9; rw [HAH.out] at h9; cases h9), HSM.out]
                rfl
              have y0 : wx.cell? ⟨Y, 0, none⟩ = some (.int .u32 (x.A : Int)) := HYx.out.cell 0 rfl
              have y1 : wx.cell? ⟨Y, 1, none⟩ = some (.int .i64 x.L) := HYx.out.cell 1 rfl
              have y2 : wx.cell? ⟨Y, 2, none⟩ = some (.int .i64 x.peer) := HYx.out.cell 2 rfl
              have t0 : wx.cell? ⟨w.heap.size, 0, none⟩ = some (.int .u32 (r.A : Int)) := HXx.out.cell 0 rfl
              have t1 : wx.cell? ⟨w.heap.size, 1, none⟩ = some (.int .i64 r.L) := HXx.out.cell 1 rfl
              have t2 : wx.cell? ⟨w.heap.size, 2, none⟩ = some (.int .i64 r.peer) := HXx.out.cell 2 rfl
              have zY := HYx.out.lt
              have zX := HXx.out.lt
              have HLR := HLS
              rw [eA] at HLR
              go_wp2_with fail
              refine (rless_any r.A r.A r.L x.L wx).mono ?_
              rw [HLR.out]
              rintro e wl ⟨rfl, hbl⟩
              have HBl : Hid (Below w1.heap.size w1 wl) := HBx.out.trans (hbl.mono HBx.out.size)
              have HOl := hide (HOx.out.later hbl)
              have HXl := hide (HXx.out.below hbl)
              have HYl := hide (HYx.out.below hbl)
              clear hbl
              clear y0 y1 y2 t0 t1 t2 zY zX
              have y0 : wl.cell? ⟨Y, 0, none⟩ = some (.int .u32 (x.A : Int)) := HYl.out.cell 0 rfl
              have y1 : wl.cell? ⟨Y, 1, none⟩ = some (.int .i64 x.L) := HYl.out.cell 1 rfl
              have y2 : wl.cell? ⟨Y, 2, none⟩ = some (.int .i64 x.peer) := HYl.out.cell 2 rfl
              have t0 : wl.cell? ⟨w.heap.size, 0, none⟩ = some (.int .u32 (r.A : Int)) := HXl.out.cell 0 rfl
              have t1 : wl.cell? ⟨w.heap.size, 1, none⟩ = some (.int .i64 r.L) := HXl.out.cell 1 rfl
              have t2 : wl.cell? ⟨w.heap.size, 2, none⟩ = some (.int .i64 r.peer) := HXl.out.cell 2 rfl
              have zY := HYl.out.lt
              have zX := HXl.out.lt
              obtain ⟨a7, c7, w7, hr7, ho7, hb7, hbl7⟩ := HOl.out.snoc (pa := pa) (pc := pc) (ca := ca) (cc := cc) (ra := ra) (rc := rc) (r := x) HBl.out.size HA.out (by have := HLE.out; first | omega | (simp only [List.length_append, List.length_cons, List.length_nil]; omega))
              have HR7 := hide hr7
              have HO7 := hide ho7
              have HB7 : Hid (Below w1.heap.size w1 w7) := HBl.out.trans hb7
              have HX7 := hide ((HX1.out).below HB7.out)
              clear hr7 ho7 hb7 hbl7
              go_wp2_with fail
              refine kept_load_intro _ _ _ (by rfl) (run_loadR HYl.out (RC.rt _ _ _ _ _ _ _)) ?_
              go_wp2_with fail
              refine keptR_one_intro _ _ _ (by rfl) (run_one _ _ _ _ _ _ _ _) ?_
              go_wp2_with fail
              refine kept_app_intro _ _ _ _ _ _ (w' := w7) (by rfl) (by rfl) (by exact HR7.out) ?_
              clear HR7
              go_wp2
              exact ⟨⟨k + 1, a7, c7, by omega, by go_num, by (rw [HT.out, HS.out]) <;> first | rfl | simp, by rw [HT.out, HS.out], by show OwnRts _ _ _ _ _; rw [HT.out, HS.out]; first | exact HO7.out | (have h9 := HO7.out; simpa using h9), HB7⟩, by simp [intOf]; omega⟩
      · have HSM : Hid (sameK r x = false) := by show sameK _ _ = _; unfold sameK; rw [decide_eq_false eA]; rfl
        have g1 : (x.A == r.A) = false := by simpa using eA
        have g2 : ((x.A : Int) == (r.A : Int)) = false := by simp; omega
        have g3 : (r.A == x.A) = false := by simpa using (fun h : r.A = x.A => eA h.symm)
        have g4 : ((r.A : Int) == (x.A : Int)) = false := by simp; omega
        have HLA : Hid (lessQ r.A r.L x.A x.L = decide (r.A < x.A)) := by show lessQ _ _ _ _ = _; unfold lessQ; rw [decide_eq_false (fun h : r.A = x.A => eA h.symm)]; simp
        have HNE : Hid (decide (r.A = x.A) = false) := decide_eq_false (fun h => eA h.symm)
        clear eA
        cases pl with
        | true =>
          have HS : Hid (putS r (o, true) x = (o ++ [x], true)) := by
            show putS _ _ _ = _
            unfold putS
            rw [if_neg (fun h => by cases h.1), HSM.out]
            rfl
          have y0 : wx.cell? ⟨Y, 0, none⟩ = some (.int .u32 (x.A : Int)) := HYx.out.cell 0 rfl
          have y1 : wx.cell? ⟨Y, 1, none⟩ = some (.int .i64 x.L) := HYx.out.cell 1 rfl
          have y2 : wx.cell? ⟨Y, 2, none⟩ = some (.int .i64 x.peer) := HYx.out.cell 2 rfl
          have t0 : wx.cell? ⟨w.heap.size, 0, none⟩ = some (.int .u32 (r.A : Int)) := HXx.out.cell 0 rfl
          have t1 : wx.cell? ⟨w.heap.size, 1, none⟩ = some (.int .i64 r.L) := HXx.out.cell 1 rfl
          have t2 : wx.cell? ⟨w.heap.size, 2, none⟩ = some (.int .i64 r.peer) := HXx.out.cell 2 rfl
          have zY := HYx.out.lt
          have zX := HXx.out.lt
          obtain ⟨a7, c7, w7, hr7, ho7, hb7, hbl7⟩ := HOx.out.snoc (pa := pa) (pc := pc) (ca := ca) (cc := cc) (ra := ra) (rc := rc) (r := x) HBx.out.size HA.out (by have := HLE.out; first | omega | (simp only [List.length_append, List.length_cons, List.length_nil]; omega))
          have HR7 := hide hr7
          have HO7 := hide ho7
          have HB7 : Hid (Below w1.heap.size w1 w7) := HBx.out.trans hb7
          have HX7 := hide ((HX1.out).below HB7.out)
          clear hr7 ho7 hb7 hbl7
          go_wp2_with fail
          refine kept_load_intro _ _ _ (by rfl) (run_loadR HYx.out (RC.rt _ _ _ _ _ _ _)) ?_
          go_wp2_with fail
          refine keptR_one_intro _ _ _ (by rfl) (run_one _ _ _ _ _ _ _ _) ?_
          go_wp2_with fail
          refine kept_app_intro _ _ _ _ _ _ (w' := w7) (by rfl) (by rfl) (by exact HR7.out) ?_
          clear HR7
          go_wp2
          exact ⟨⟨k + 1, a7, c7, by omega, by go_num, by (rw [HT.out, HS.out]) <;> first | rfl | simp, by rw [HT.out, HS.out], by show OwnRts _ _ _ _ _; rw [HT.out, HS.out]; first | exact HO7.out | (have h9 := HO7.out; simpa using h9), HB7⟩, by simp [intOf]; omega⟩
        | false =>
          by_cases hq : r.A < x.A
          · have HLS : Hid (lessQ r.A r.L x.A x.L = true) := by show lessQ _ _ _ _ = _; rw [HLA.out, decide_eq_true hq]
            have HAH : Hid (aheadK r x = true) := by show aheadK _ _ = _; unfold aheadK; rw [HLS.out]; rfl
            clear hq
            have HS : Hid (putS r (o, false) x = (o ++ [r] ++ [x], true)) := by
              show putS _ _ _ = _
              unfold putS
              rw [if_pos ⟨rfl, .inr HAH.out⟩, HSM.out]
              rfl
            have y0 : wx.cell? ⟨Y, 0, none⟩ = some (.int .u32 (x.A : Int)) := HYx.out.cell 0 rfl
            have y1 : wx.cell? ⟨Y, 1, none⟩ = some (.int .i64 x.L) := HYx.out.cell 1 rfl
            have y2 : wx.cell? ⟨Y, 2, none⟩ = some (.int .i64 x.peer) := HYx.out.cell 2 rfl
            have t0 : wx.cell? ⟨w.heap.size, 0, none⟩ = some (.int .u32 (r.A : Int)) := HXx.out.cell 0 rfl
            have t1 : wx.cell? ⟨w.heap.size, 1, none⟩ = some (.int .i64 r.L) := HXx.out.cell 1 rfl
            have t2 : wx.cell? ⟨w.heap.size, 2, none⟩ = some (.int .i64 r.peer) := HXx.out.cell 2 rfl
            have zY := HYx.out.lt
            have zX := HXx.out.lt
            have HLR := HLS
            go_wp2_with fail
            refine (rless_any r.A x.A r.L x.L wx).mono ?_
            rw [HLR.out]
            rintro e wl ⟨rfl, hbl⟩
            have HBl : Hid (Below w1.heap.size w1 wl) := HBx.out.trans (hbl.mono HBx.out.size)
            have HOl := hide (HOx.out.later hbl)
            have HXl := hide (HXx.out.below hbl)
            have HYl := hide (HYx.out.below hbl)
            clear hbl
            clear y0 y1 y2 t0 t1 t2 zY zX
            have y0 : wl.cell? ⟨Y, 0, none⟩ = some (.int .u32 (x.A : Int)) := HYl.out.cell 0 rfl
            have y1 : wl.cell? ⟨Y, 1, none⟩ = some (.int .i64 x.L) := HYl.out.cell 1 rfl
            have y2 : wl.cell? ⟨Y, 2, none⟩ = some (.int .i64 x.peer) := HYl.out.cell 2 rfl
            have t0 : wl.cell? ⟨w.heap.size, 0, none⟩ = some (.int .u32 (r.A : Int)) := HXl.out.cell 0 rfl
            have t1 : wl.cell? ⟨w.heap.size, 1, none⟩ = some (.int .i64 r.L) := HXl.out.cell 1 rfl
            have t2 : wl.cell? ⟨w.heap.size, 2, none⟩ = some (.int .i64 r.peer) := HXl.out.cell 2 rfl
            have zY := HYl.out.lt
            have zX := HXl.out.lt
            obtain ⟨a8, c8, w8, hr8, ho8, hb8, hbl8⟩ := HOl.out.snoc (pa := pr) (pc := prc) (ca := cr) (cc := crc) (ra := rr) (rc := rrc) (r := r) HBl.out.size HAR.out (by have := HLE.out; first | omega | (simp only [List.length_append, List.length_cons, List.length_nil]; omega))
            have HR8 := hide hr8
            have HO8 := hide ho8
            have HB8 : Hid (Below w1.heap.size w1 w8) := HBl.out.trans hb8
            have HX8 := hide ((HX1.out).below HB8.out)
            have HY8 := hide (hbl8 _ _ HYl.out HNB.out)
            clear hr8 ho8 hb8 hbl8
            go_wp2_with fail
            refine kept_load_intro _ _ _ (by rfl) (run_loadR HXl.out (RC.rt _ _ _ _ _ _ _)) ?_
            go_wp2_with fail
            refine keptR_one_intro _ _ _ (by rfl) (run_one _ _ _ _ _ _ _ _) ?_
            go_wp2_with fail
            refine kept_app_intro _ _ _ _ _ _ (w' := w8) (by rfl) (by rfl) (by exact HR8.out) ?_
            clear HR8
            clear y0 y1 y2 t0 t1 t2 zY zX
            have zY := HX8.out.lt
            obtain ⟨a7, c7, w7, hr7, ho7, hb7, hbl7⟩ := HO8.out.snoc (pa := pa) (pc := pc) (ca := ca) (cc := cc) (ra := ra) (rc := rc) (r := x) HB8.out.size HA.out (by have := HLE.out; first | omega | (simp only [List.length_append, List.length_cons, List.length_nil]; omega))
            have HR7 := hide hr7
            have HO7 := hide ho7
            have HB7 : Hid (Below w1.heap.size w1 w7) := HB8.out.trans hb7
            have HX7 := hide ((HX1.out).below HB7.out)
            clear hr7 ho7 hb7 hbl7
            go_wp2_with fail
            refine kept_load_intro _ _ _ (by rfl) (run_loadR HY8.out (RC.rt _ _ _ _ _ _ _)) ?_
            go_wp2_with fail
            refine keptR_one_intro _ _ _ (by rfl) (run_one _ _ _ _ _ _ _ _) ?_
            go_wp2_with fail
            refine kept_app_intro _ _ _ _ _ _ (w' := w7) (by rfl) (by rfl) (by exact HR7.out) ?_
            clear HR7
            go_wp2
            exact ⟨⟨k + 1, a7, c7, by omega, by go_num, by (rw [HT.out, HS.out]) <;> first | rfl | simp, by rw [HT.out, HS.out], by show OwnRts _ _ _ _ _; rw [HT.out, HS.out]; first | exact HO7.out | (have h9 := HO7.out; simpa using h9), HB7⟩, by simp [intOf]; omega⟩
          · have HLS : Hid (lessQ r.A r.L x.A x.L = false) := by show lessQ _ _ _ _ = _; rw [HLA.out, decide_eq_false hq]
            have HAH : Hid (aheadK r x = false) := by show aheadK _ _ = _; unfold aheadK; rw [HLS.out, HNE.out]; rfl
            clear hq
            have HS : Hid (putS r (o, false) x = (o ++ [x], false)) := by
              show putS _ _ _ = _
              unfold putS
              rw [if_neg (fun h => by rcases h.2 with h9 | h9; rw [HSM.out] at h9; cases h9; rw [HAH.out] at h9; cases h9), HSM.out]
              rfl
            have y0 : wx.cell? ⟨Y, 0, none⟩ = some (.int .u32 (x.A : Int)) := HYx.out.cell 0 rfl
            have y1 : wx.cell? ⟨Y, 1, none⟩ = some (.int .i64 x.L) := HYx.out.cell 1 rfl
            have y2 : wx.cell? ⟨Y, 2, none⟩ = some (.int .i64 x.peer) := HYx.out.cell 2 rfl
            have t0 : wx.cell? ⟨w.heap.size, 0, none⟩ = some (.int .u32 (r.A : Int)) := HXx.out.cell 0 rfl
            have t1 : wx.cell? ⟨w.heap.size, 1, none⟩ = some (.int .i64 r.L) := HXx.out.cell 1 rfl
            have t2 : wx.cell? ⟨w.heap.size, 2, none⟩ = some (.int .i64 r.peer) := HXx.out.cell 2 rfl
            have zY := HYx.out.lt
            have zX := HXx.out.lt
            have HLR := HLS
            go_wp2_with fail
            refine (rless_any r.A x.A r.L x.L wx).mono ?_
            rw [HLR.out]
            rintro e wl ⟨rfl, hbl⟩
            have HBl : Hid (Below w1.heap.size w1 wl) := HBx.out.trans (hbl.mono HBx.out.size)
            have HOl := hide (HOx.out.later hbl)
            have HXl := hide (HXx.out.below hbl)
            have HYl := hide (HYx.out.below hbl)
            clear hbl
            clear y0 y1 y2 t0 t1 t2 zY zX
            have y0 : wl.cell? ⟨Y, 0, none⟩ = some (.int .u32 (x.A : Int)) := HYl.out.cell 0 rfl
            have y1 : wl.cell? ⟨Y, 1, none⟩ = some (.int .i64 x.L) := HYl.out.cell 1 rfl
            have y2 : wl.cell? ⟨Y, 2, none⟩ = some (.int .i64 x.peer) := HYl.out.cell 2 rfl
            have t0 : wl.cell? ⟨w.heap.size, 0, none⟩ = some (.int .u32 (r.A : Int)) := HXl.out.cell 0 rfl
            have t1 : wl.cell? ⟨w.heap.size, 1, none⟩ = some (.int .i64 r.L) := HXl.out.cell 1 rfl
            have t2 : wl.cell? ⟨w.heap.size, 2, none⟩ = some (.int .i64 r.peer) := HXl.out.cell 2 rfl
            have zY := HYl.out.lt
            have zX := HXl.out.lt
            obtain ⟨a7, c7, w7, hr7, ho7, hb7, hbl7⟩ := HOl.out.snoc (pa := pa) (pc := pc) (ca := ca) (cc := cc) (ra := ra) (rc := rc) (r := x) HBl.out.size HA.out (by have := HLE.out; first | omega | (simp only [List.length_append, List.length_cons, List.length_nil]; omega))
            have HR7 := hide hr7
            have HO7 := hide ho7
            have HB7 : Hid (Below w1.heap.size w1 w7) := HBl.out.trans hb7
            have HX7 := hide ((HX1.out).below HB7.out)
            clear hr7 ho7 hb7 hbl7
            go_wp2_with fail
            refine kept_load_intro _ _ _ (by rfl) (run_loadR HYl.out (RC.rt _ _ _ _ _ _ _)) ?_
            go_wp2_with fail
            refine keptR_one_intro _ _ _ (by rfl) (run_one _ _ _ _ _ _ _ _) ?_
            go_wp2_with fail
            refine kept_app_intro _ _ _ _ _ _ (w' := w7) (by rfl) (by rfl) (by exact HR7.out) ?_
            clear HR7
            go_wp2
            exact ⟨⟨k + 1, a7, c7, by omega, by go_num, by (rw [HT.out, HS.out]) <;> first | rfl | simp, by rw [HT.out, HS.out], by show OwnRts _ _ _ _ _; rw [HT.out, HS.out]; first | exact HO7.out | (have h9 := HO7.out; simpa using h9), HB7⟩, by simp [intOf]; omega⟩
    · have HE : Hid (l.take k = l) := List.take_of_length_le (by rw [HL.out]; omega)
      rw [HE.out] at HO ⊢
      cases hq : (putF r l).2 with
      | true =>
        have HPL : Hid (putL r l = (putF r l).1) := by show putL _ _ = _; unfold putL; rw [if_pos hq]
        have HF := hide (HO.out.base (B' := w.heap.size) (by omega))
        have HBF := hide (HB1.out.trans (HB.out.mono (by omega)))
        clear HO HB
        go_wp2
        go_ret
        exact ⟨⟨_, rfl, by rw [HPL.out]; exact HF.out⟩, HBF.out⟩
      | false =>
        have HPL : Hid (putL r l = (putF r l).1 ++ [r]) := by show putL _ _ = _; unfold putL; rw [if_neg (by rw [hq]; simp)]
        have HLE : Hid ((putF r l).1.length ≤ 200000) := by show List.length _ ≤ _; have := putF_length r l; have := HL.out; omega
        obtain ⟨a8, c8, w8, hr8, ho8, hb8, _⟩ := HO.out.snoc (pa := pr) (pc := prc) (ca := cr) (cc := crc) (ra := rr) (rc := rrc) (r := r) HB.out.size HAR.out (by have := HLE.out; omega)
        have HXw := hide (HX1.out.below HB.out)
        have HR8 := hide hr8
        have HF := hide (ho8.base (B' := w.heap.size) (by omega))
        have HBF := hide (HB1.out.trans ((HB.out.trans hb8).mono (by omega)))
        clear hr8 ho8 hb8 HO HB HLE
        go_wp2_with fail
        refine kept_load_intro _ _ _ (by rfl) (run_loadR HXw.out (RC.rt _ _ _ _ _ _ _)) ?_
        go_wp2_with fail
        refine keptR_one_intro _ _ _ (by rfl) (run_one _ _ _ _ _ _ _ _) ?_
        go_wp2_with fail
        refine kept_app_intro _ _ _ _ _ _ (w' := w8) (by rfl) (by rfl) (by exact HR8.out) ?_
        clear HR8
        go_wp2
        go_ret
        exact ⟨⟨_, rfl, by rw [HPL.out]; exact HF.out⟩, HBF.out⟩
set_option maxHeartbeats 3200000 in
theorem rput_none (a : Option Addr) (c : Nat) (r : Rt) (pr : Option Addr) (prc : Nat) (cr : Option Addr) (crc : Nat) (rr : Option Addr) (rrc : Nat) (w : World) (hr : AtRd w pr cr rr r.att) :
    Calls Tryd.prog 19 #[.slice a 0 c, rtV pr prc cr crc rr rrc r] w fun e w' => (∃ v, e = .returned v ∧ OwnRts w w.heap.size w' v [r]) ∧ Below w.heap.size w w' := by
  have HAR := hide hr
  have HB1 : Hid (Below w.heap.size w (w.alloc (.cells (rtC pr prc cr crc rr rrc r) 36))) := (Below.refl _ _).alloc (Nat.le_refl _) _
  have HX1 : Hid (Bl (w.alloc (.cells (rtC pr prc cr crc rr rrc r) 36)) w.heap.size (rtC pr prc cr crc rr rrc r)) := Bl.new w _
  have hz1 : w.heap.size < (w.alloc (.cells (rtC pr prc cr crc rr rrc r) 36)).heap.size := by simp
  clear hr
  rw [rtV_eq]
  go_enter Tryd.func19, Tryd.ntmps19
  go_wp2_with fail
  refine kept_box_intro _ _ _ (by rfl) (run_boxR _ w) ?_
  generalize w.alloc (.cells (rtC pr prc cr crc rr rrc r) 36) = w1 at *
  go_wp2_with fail
  go_loopw [5, 6, 7] (fun v p i wq => i = .int .i64 0 ∧ v = .slice none 0 0 ∧ p = .bool false ∧ wq = w1) (fun _ _ i _ => 0 - (intOf i).toNat)
  case atStart => exact ⟨rfl, rfl, rfl, rfl⟩
  case round =>
    obtain ⟨rfl, rfl, rfl, rfl⟩ := hrel
    obtain ⟨a8, c8, w8, hr8, ho8, hb8, _⟩ := (OwnRts.nil w wr.heap.size wr).snoc (pa := pr) (pc := prc) (ca := cr) (cc := crc) (ra := rr) (rc := rrc) (r := r) (Nat.le_refl _) HAR.out (by simp)
    have HR8 := hide hr8
    have HF := hide (ho8.base (B' := w.heap.size) (by omega))
    have HBF := hide (HB1.out.trans (hb8.mono (by omega)))
    clear hr8 ho8 hb8
    go_wp2_with fail
    refine kept_load_intro _ _ _ (by rfl) (run_loadR HX1.out (RC.rt _ _ _ _ _ _ _)) ?_
    go_wp2_with fail
    refine keptR_one_intro _ _ _ (by rfl) (run_one _ _ _ _ _ _ _ _) ?_
    go_wp2_with fail
    refine kept_app_intro _ _ _ _ _ _ (w' := w8) (by rfl) (by rfl) (by exact HR8.out) ?_
    clear HR8
    go_wp2
    go_ret
    exact ⟨⟨_, rfl, HF.out⟩, HBF.out⟩
end
/-- The document's Put into any list of routes. -/
theorem rput_any (a : Option Addr) (c : Nat) (l : List Rt) (r : Rt) (pr : Option Addr) (prc : Nat) (cr : Option Addr) (crc : Nat) (rr : Option Addr) (rrc : Nat) (w : World) (hn : l.length ≤ 100000) (hr : AtRd w pr cr rr r.att) (h : RtsRd w a l) :
    Calls Tryd.prog 19 #[.slice a l.length c, rtV pr prc cr crc rr rrc r] w fun e w' => (∃ v, e = .returned v ∧ OwnRts w w.heap.size w' v (putL r l)) ∧ Below w.heap.size w w' := by
  cases l with
  | nil => exact rput_none a c r pr prc cr crc rr rrc w hr
  | cons x l =>
    obtain ⟨b, off, rfl, hc⟩ := h (by simp)
    exact rput_some b off _ c _ r pr prc cr crc rr rrc w rfl hn hr hc
end Go.Proofs.YthigjonagbfbbaaDoor
/- Lists of routes that rise (plain). -/
namespace Go.Proofs.YthigjonagbfbbaaDoor
open Go.RowKit
set_option maxRecDepth 100000

theorem ahead_iff (r x : Rt) : aheadK r x = true ↔ r.A < x.A ∨ (r.A = x.A ∧ (r.L < x.L ∨ (r.L = x.L ∧ r.peer < x.peer))) := by
  unfold aheadK lessQ
  simp only [Bool.or_eq_true, Bool.and_eq_true, decide_eq_true_eq]
  omega
theorem sameK_iff (r x : Rt) : sameK r x = true ↔ x.A = r.A ∧ x.L = r.L ∧ x.peer = r.peer := by
  unfold sameK
  simp only [Bool.and_eq_true, decide_eq_true_eq]
  omega
theorem ahead_trans {a b c : Rt} (h : aheadK a b = true) (g : aheadK b c = true) : aheadK a c = true := by
  rw [ahead_iff] at *; omega
theorem ahead_irrefl (a : Rt) : aheadK a a = false := by
  cases h : aheadK a a with
  | false => rfl
  | true => rw [ahead_iff] at h; omega
theorem ahead_asym {a b : Rt} (h : aheadK a b = true) : aheadK b a = false := by
  cases g : aheadK b a with
  | false => rfl
  | true => rw [ahead_iff] at *; omega
theorem ahead_unlike {a b : Rt} (h : aheadK a b = true) : sameK a b = false := by
  cases g : sameK a b with
  | false => rfl
  | true => rw [ahead_iff] at h; rw [sameK_iff] at g; omega
theorem ahead_unlike' {a b : Rt} (h : aheadK a b = true) : sameK b a = false := by
  cases g : sameK b a with
  | false => rfl
  | true => rw [ahead_iff] at h; rw [sameK_iff] at g; omega
theorem ahead_same {a b c : Rt} (h : sameK a b = true) (g : aheadK b c = true) : aheadK a c = true := by
  rw [ahead_iff] at *; rw [sameK_iff] at h; omega
theorem ahead_total (r x : Rt) (h1 : sameK r x = false) (h2 : aheadK r x = false) : aheadK x r = true := by
  rw [ahead_iff]
  have n1 : ¬ (x.A = r.A ∧ x.L = r.L ∧ x.peer = r.peer) := by rw [← sameK_iff, h1]; simp
  have n2 : ¬ (r.A < x.A ∨ (r.A = x.A ∧ (r.L < x.L ∨ (r.L = x.L ∧ r.peer < x.peer)))) := by rw [← ahead_iff, h2]; simp
  omega
/-- A list of routes that rises by address, length and peer. -/
def RisesR (l : List Rt) : Prop := l.Pairwise (fun a b => aheadK a b = true)
/-- Is there one at or behind r? -/
def anyR (r : Rt) (l : List Rt) : Bool := l.any (fun x => sameK r x || aheadK r x)
def midR (r : Rt) (l : List Rt) : List Rt := l.filter (fun x => aheadK x r) ++ [r] ++ l.filter (fun x => aheadK r x)
theorem any_no {r : Rt} {l : List Rt} (h : anyR r l = false) (x : Rt) (hx : x ∈ l) : aheadK x r = true := by
  unfold anyR at h
  rw [List.any_eq_false] at h
  have := h x hx
  simp only [Bool.or_eq_true, not_or, Bool.not_eq_true] at this
  exact ahead_total r x this.1 this.2
theorem filter_all {r : Rt} {l : List Rt} (h : ∀ x ∈ l, aheadK x r = true) : l.filter (fun x => aheadK x r) = l ∧ l.filter (fun x => aheadK r x) = [] := by
  refine ⟨List.filter_eq_self.2 h, List.filter_eq_nil_iff.2 fun x hx => ?_⟩
  rw [ahead_asym (h x hx)]; simp
theorem putF_rev (r : Rt) (m : List Rt) (h : RisesR m.reverse) : putF r m.reverse = if anyR r m.reverse then (midR r m.reverse, true) else (m.reverse, false) := by
  induction m with
  | nil => rfl
  | cons x m ih =>
    rw [List.reverse_cons] at h ⊢
    unfold RisesR at h
    rw [List.pairwise_append] at h
    obtain ⟨h1, _, h3⟩ := h
    have hx : ∀ y ∈ m.reverse, aheadK y x = true := fun y hy => h3 y hy x (by simp)
    rw [putF_snoc, ih h1]
    generalize m.reverse = l at *
    cases ha : anyR r l with
    | true =>
      have hr : aheadK r x = true := by
        unfold anyR at ha
        rw [List.any_eq_true] at ha
        obtain ⟨y, hy, hq⟩ := ha
        rw [Bool.or_eq_true] at hq
        rcases hq with hq | hq
        · exact ahead_same hq (hx y hy)
        · exact ahead_trans hq (hx y hy)
      have hA : anyR r (l ++ [x]) = true := by unfold anyR at *; rw [List.any_append, ha]; rfl
      rw [if_pos rfl, if_pos hA]
      unfold putS midR
      simp [ahead_unlike hr, hr, ahead_asym hr]
    | false =>
      have hl := any_no ha
      obtain ⟨f1, f2⟩ := filter_all hl
      rw [if_neg (by simp)]
      cases hs : sameK r x with
      | true =>
        have hA : anyR r (l ++ [x]) = true := by unfold anyR; rw [List.any_append]; simp [hs]
        have e1 : aheadK r x = false := by
          cases g : aheadK r x with
          | false => rfl
          | true => rw [ahead_unlike g] at hs; cases hs
        have e2 : aheadK x r = false := by
          cases g : aheadK x r with
          | false => rfl
          | true => rw [ahead_unlike' g] at hs; cases hs
        rw [if_pos hA]
        unfold putS midR
        rw [List.filter_append, List.filter_append, f1, f2]
        simp [hs, e1, e2]
      | false =>
        cases hq : aheadK r x with
        | true =>
          have hA : anyR r (l ++ [x]) = true := by unfold anyR; rw [List.any_append]; simp [hq]
          rw [if_pos hA]
          unfold putS midR
          rw [List.filter_append, List.filter_append, f1, f2]
          simp [hs, hq, ahead_asym hq]
        | false =>
          have hA : anyR r (l ++ [x]) = false := by unfold anyR at *; rw [List.any_append, ha]; simp [hq, hs]
          rw [hA]
          unfold putS
          simp [hs, hq]
theorem putF_is (r : Rt) (l : List Rt) (h : RisesR l) : putF r l = if anyR r l then (midR r l, true) else (l, false) := by
  have := putF_rev r l.reverse
  rw [List.reverse_reverse] at this
  exact this h
theorem putL_is (r : Rt) (l : List Rt) (h : RisesR l) : putL r l = midR r l := by
  unfold putL
  rw [putF_is r l h]
  cases ha : anyR r l with
  | true => rfl
  | false =>
    obtain ⟨f1, f2⟩ := filter_all (any_no ha)
    unfold midR
    rw [f1, f2]
    simp
theorem rises_mid (r : Rt) (l : List Rt) (h : RisesR l) : RisesR (midR r l) := by
  unfold RisesR midR at *
  rw [List.append_assoc, List.pairwise_append, List.pairwise_append]
  refine ⟨h.filter _, ⟨by simp, h.filter _, ?_⟩, ?_⟩
  · intro a ha b hb
    rw [List.mem_singleton] at ha
    subst ha
    exact (List.mem_filter.1 hb).2
  · intro a ha b hb
    have ha' := (List.mem_filter.1 ha).2
    rw [List.mem_append, List.mem_singleton] at hb
    rcases hb with rfl | hb
    · exact ha'
    · exact ahead_trans ha' (List.mem_filter.1 hb).2
theorem rises_put (r : Rt) (l : List Rt) (h : RisesR l) : RisesR (putL r l) := by rw [putL_is r l h]; exact rises_mid r l h
theorem mem_put (r x : Rt) (l : List Rt) (h : RisesR l) : x ∈ putL r l ↔ x = r ∨ (x ∈ l ∧ sameK r x = false) := by
  rw [putL_is r l h]
  unfold midR
  simp only [List.mem_append, List.mem_filter, List.mem_singleton]
  constructor
  · rintro ((⟨h1, h2⟩ | h1) | ⟨h1, h2⟩)
    · exact .inr ⟨h1, ahead_unlike' h2⟩
    · exact .inl h1
    · exact .inr ⟨h1, ahead_unlike h2⟩
  · rintro (h1 | ⟨h1, h2⟩)
    · exact .inl (.inr h1)
    · cases hq : aheadK r x with
      | true => exact .inr ⟨h1, rfl⟩
      | false => exact .inl (.inl ⟨h1, ahead_total r x h2 hq⟩)
/-- Two of a rising list with the same key are one. -/
theorem rises_one {l : List Rt} (h : RisesR l) {x y : Rt} (hx : x ∈ l) (hy : y ∈ l) (hs : sameK x y = true) : x = y := by
  unfold RisesR at h
  induction l with
  | nil => cases hx
  | cons z l ih =>
    rw [List.pairwise_cons] at h
    rcases List.mem_cons.1 hx with e1 | h1
    · rcases List.mem_cons.1 hy with e2 | h2
      · rw [e1, e2]
      · rw [e1, ahead_unlike (h.1 y h2)] at hs; cases hs
    · rcases List.mem_cons.1 hy with e2 | h2
      · rw [e2, ahead_unlike' (h.1 x h1)] at hs; cases hs
      · exact ih h.2 h1 h2
theorem rises_drop (A : Nat) (L peer : Int) (l : List Rt) (h : RisesR l) : RisesR (dropL A L peer l) := by unfold RisesR dropL at *; exact h.filter _
theorem mem_drop (A : Nat) (L peer : Int) (l : List Rt) (x : Rt) : x ∈ dropL A L peer l ↔ x ∈ l ∧ gone A L peer x = false := by
  unfold dropL
  rw [List.mem_filter]
  simp
/-- Was it there? -/
theorem drop_was (A : Nat) (L peer : Int) (l : List Rt) : decide ((dropL A L peer l).length < l.length) = l.any (fun x => gone A L peer x) := by
  induction l with
  | nil => rfl
  | cons x l ih =>
    have hle := dropL_length A L peer l
    unfold dropL at *
    rw [List.filter_cons, List.any_cons]
    cases h : gone A L peer x with
    | true => simp; omega
    | false => simpa using ih
/-- The route of a key. -/
def getK (A : Nat) (L peer : Int) (l : List Rt) : Option Rt := l.find? (fun x => gone A L peer x)
theorem getK_some {A : Nat} {L peer : Int} {l : List Rt} (h : RisesR l) {x : Rt} (hx : x ∈ l) (hg : gone A L peer x = true) : getK A L peer l = some x := by
  unfold getK
  cases hf : l.find? (fun x => gone A L peer x) with
  | none => rw [List.find?_eq_none] at hf; exact absurd hg (hf x hx)
  | some y =>
    have h1 := List.find?_some hf
    have h2 := List.mem_of_find?_eq_some hf
    rw [rises_one h h2 hx ?_]
    rw [sameK_iff]
    simp only [gone, Bool.and_eq_true, decide_eq_true_eq] at h1 hg
    omega
theorem getK_none {A : Nat} {L peer : Int} {l : List Rt} (h : ∀ x ∈ l, gone A L peer x = false) : getK A L peer l = none := by
  unfold getK
  rw [List.find?_eq_none]
  intro x hx
  rw [h x hx]; simp
/-- Two rising lists of the same routes are one. -/
theorem rises_eq : ∀ (l m : List Rt), RisesR l → RisesR m → (∀ x, x ∈ l ↔ x ∈ m) → l = m
  | [], [], _, _, _ => rfl
  | [], y :: m, _, _, h => absurd ((h y).2 (by simp)) (by simp)
  | x :: l, [], _, _, h => absurd ((h x).1 (by simp)) (by simp)
  | x :: l, y :: m, h1, h2, h => by
    unfold RisesR at h1 h2
    rw [List.pairwise_cons] at h1 h2
    have e : x = y := by
      rcases List.mem_cons.1 ((h x).1 (by simp)) with e | hx
      · exact e
      · rcases List.mem_cons.1 ((h y).2 (by simp)) with e | hy
        · exact e.symm
        · have a1 := h2.1 x hx
          have a2 := h1.1 y hy
          rw [ahead_asym a1] at a2; cases a2
    subst e
    have nl : ∀ z ∈ l, z ≠ x := fun z hz e => by have := h1.1 z hz; rw [e, ahead_irrefl] at this; cases this
    have nm : ∀ z ∈ m, z ≠ x := fun z hz e => by have := h2.1 z hz; rw [e, ahead_irrefl] at this; cases this
    rw [rises_eq l m h1.2 h2.2 fun z => ?_]
    constructor
    · intro hz
      rcases List.mem_cons.1 ((h z).1 (List.mem_cons_of_mem _ hz)) with e | hm
      · exact absurd e (nl z hz)
      · exact hm
    · intro hz
      rcases List.mem_cons.1 ((h z).2 (List.mem_cons_of_mem _ hz)) with e | hm
      · exact absurd e (nm z hz)
      · exact hm
/-- Does a route speak of a key that another one has? -/
theorem gone_same (r x : Rt) : gone r.A r.L r.peer x = sameK r x := rfl
theorem getK_put {A : Nat} {L peer : Int} {l : List Rt} (h : RisesR l) (r : Rt) : getK A L peer (putL r l) = if gone A L peer r then some r else getK A L peer l := by
  have hp := rises_put r l h
  cases hg : gone A L peer r with
  | true =>
    rw [if_pos rfl]
    exact getK_some hp ((mem_put r r l h).2 (.inl rfl)) hg
  | false =>
    rw [if_neg (by simp)]
    cases ho : getK A L peer l with
    | none =>
      refine getK_none fun x hx => ?_
      rcases (mem_put r x l h).1 hx with rfl | ⟨hm, _⟩
      · exact hg
      · have := List.find?_eq_none.1 ho x hm
        simpa using this
    | some x =>
      have h1 : gone A L peer x = true := by simpa using List.find?_some ho
      refine getK_some hp ((mem_put r x l h).2 (.inr ⟨List.mem_of_find?_eq_some ho, ?_⟩)) h1
      cases hs : sameK r x with
      | false => rfl
      | true =>
        rw [sameK_iff] at hs
        simp only [gone, Bool.and_eq_true, decide_eq_true_eq, Bool.and_eq_false_iff, decide_eq_false_iff_not] at h1 hg
        omega
theorem put_length (r : Rt) (l : List Rt) : (putL r l).length ≤ 2 * l.length + 1 := by
  unfold putL
  have := putF_length r l
  split <;> simp <;> omega
theorem put_length_rises (r : Rt) (l : List Rt) (h : RisesR l) : (putL r l).length ≤ l.length + 1 := by
  rw [putL_is r l h]
  unfold midR
  have key : ∀ m : List Rt, (m.filter (fun x => aheadK x r)).length + (m.filter (fun x => aheadK r x)).length ≤ m.length := by
    intro m
    induction m with
    | nil => simp
    | cons x m ih =>
      rw [List.filter_cons, List.filter_cons]
      cases h1 : aheadK x r with
      | true => rw [ahead_asym h1]; simp; omega
      | false => cases h2 : aheadK r x <;> simp <;> omega
  have := key l
  simp only [List.length_append, List.length_cons, List.length_nil]
  omega
end Go.Proofs.YthigjonagbfbbaaDoor
