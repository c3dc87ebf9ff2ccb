/- unlike: what is told anew, or otherwise, one by one. -/
import Derived.Test.YthigjonagbfbbaaDoorKAy
import Derived.Test.YthigjonagbfbbaaDoorKBa
import Derived.Deep.DeepCutAuto
namespace Go.Proofs.YthigjonagbfbbaaDoor
open Go.RowKit
set_option maxRecDepth 100000

/-- The attributes that cells are, as they are read. -/
def CellAt (w : World) (f : Array Value → At) (C : Array Value) : Prop := ∃ pa pc ca cc ra rc, C = atC pa pc ca cc ra rc (f C) ∧ AtRd w pa ca ra (f C) ∧ sizeA (f C) ≤ 100000
theorem CellAt.below {w w' : World} {f : Array Value → At} {C : Array Value} (h : CellAt w f C) (hb : Below w.heap.size w w') : CellAt w' f C := by
  obtain ⟨pa, pc, ca, cc, ra, rc, h1, h2, h3⟩ := h
  exact ⟨pa, pc, ca, cc, ra, rc, h1, h2.below hb, h3⟩
/-- What is handed to a loop. -/
def ArgT (t : Tl) (v : Value) (G : Nat → Prop) (_ : World) : Prop := v = .agg (tlC t) ∧ ∀ k, ¬ G k
/-- What is new, or another one. -/
def newB (old : List Tl) (f : Array Value → At) (t : Tl) : Bool := !((byP old t.A t.L).isSome && eqA (f (foundC (byP old t.A t.L))) (f t.C))
def newL (old fresh : List Tl) (f : Array Value → At) : List Tl := fresh.filter (newB old f)
theorem newL_yes (old l : List Tl) (f : Array Value → At) (k : Nat) (t : Tl) (h : l[k]? = some t) (hg : newB old f t = true) : newL old (l.take (k + 1)) f = newL old (l.take k) f ++ [t] := by
  rw [take_more l k t h]
  simp [newL, List.filter_append, hg]
theorem newL_no (old l : List Tl) (f : Array Value → At) (k : Nat) (t : Tl) (h : l[k]? = some t) (hg : newB old f t = false) : newL old (l.take (k + 1)) f = newL old (l.take k) f := by
  rw [take_more l k t h]
  simp [newL, List.filter_append, hg]
theorem newL_rest (old l : List Tl) (f : Array Value → At) (k : Nat) (t : Tl) (h : l[k]? = some t) (hg : newB old f t = true) : ∃ rest, newL old l f = newL old (l.take k) f ++ t :: rest := by
  refine ⟨newL old (l.drop (k + 1)) f, ?_⟩
  have e : l = l.take k ++ t :: l.drop (k + 1) := by
    have h1 := List.take_append_drop k l
    rw [List.drop_eq_getElem_cons (List.getElem?_eq_some_iff.1 h).1] at h1
    rw [(List.getElem?_eq_some_iff.1 h).2] at h1
    exact h1.symm
  conv => lhs; rw [e]
  simp [newL, List.filter_append, hg]
theorem tl_split {t : Tl} (j : Nat) (v : Value) (hv : t.C.toList[j]? = some v) : (tlC t)[2 + j]? = some v := by rw [tlC_get, ← Array.getElem?_toList]; exact hv
section
variable {P : Program} {a : Act} {w w' : World} {K : Act → World → Prop} {Q : Exit → Act → World → Prop} {dst : Option Tmp} {ty : TypeId} {pos : String} {after : Array Edge} {gd : Option (Nat × Bool)}
theorem keptTIn_load (F : Fence) (x : Operand) : Oper.wpIn F 0 P { dst := dst, op := .load 54 x, type := ty, pos := pos, after := after, guard := gd } a w K Q = KeptIn F P { dst := dst, op := .load 54 x, type := ty, pos := pos, after := after, guard := gd } a w K Q := rfl
end
section
attribute [local go_sem ↓] keptT_load keptT_store keptT_alloc keptA_load keptA_store keptA_alloc kept_look keptTIn_load
set_option maxHeartbeats 3200000 in
theorem unlike_goes (oa fa : Option Addr) (oc fc X Y B : Nat) (old fresh : List Tl) (f : Array Value → At) (wb w : World) (hB : B = wb.heap.size) (hb : Below B wb w) (ho : old.length ≤ 100000) (hf : fresh.length ≤ 100000) (hor : TlsRd wb oa old) (hfr : TlsRd wb fa fresh)
    (hoa : ∀ t ∈ old, CellAt wb f t.C) (hfa : ∀ t ∈ fresh, CellAt wb f t.C)
    (hX : w.cell? ⟨X, 0, none⟩ = some (.slice oa old.length oc)) (hY : w.cell? ⟨Y, 0, none⟩ = some (.slice fa fresh.length fc)) :
    GoesOver Tryd.prog 53 #[.pointer (some ⟨X, 0, none⟩), .pointer (some ⟨Y, 0, none⟩)] ArgT (newL old fresh f) (NeedW X Y B) w := by
  intro l J W H hJ hk hHN hYd h0
  refine callsIn_wide.2 ?_
  show Calls Tryd.prog 53 #[.func (.yield l) #[] #[], .pointer (some ⟨X, 0, none⟩), .pointer (some ⟨Y, 0, none⟩)] W _
  have hcX : W.cell? ⟨X, 0, none⟩ = some (.slice oa old.length oc) := by rw [hk.cell _ (World.block_lt_of_cell? w _ hX) (fun h => h (.inl rfl))]; exact hX
  have hcY : W.cell? ⟨Y, 0, none⟩ = some (.slice fa fresh.length fc) := by rw [hk.cell _ (World.block_lt_of_cell? w _ hY) (fun h => h (.inr (.inl rfl)))]; exact hY
  have hbW : Below B wb W := hb.trans (hk.below B (by have := hb.size; omega) (fun b h => by rcases Nat.lt_or_ge b B with h1 | h1; exact absurd (.inr (.inr h1)) h; exact h1))
  subst hB
  have HNB : Hid (∀ k, H k → wb.heap.size ≤ k) := fun k h => by rcases Nat.lt_or_ge k wb.heap.size with h1 | h1; exact absurd (.inr (.inr h1)) (hHN k h); exact h1
  have HJ := hide hJ
  have HB := hide hbW
  have H0 := hide h0
  have HOR := hide hor
  have HFR := hide hfr
  have HYD := hide hYd
  have HOA := hide hoa
  have HFA := hide hfa
  clear hX hY hk hHN hb hbW h0 hor hfr hYd hJ hoa hfa
  obtain ⟨n, hn⟩ : ∃ n, n = fresh.length := ⟨_, rfl⟩
  have HN := hide hn
  rw [← hn] at hcY
  have hn2 : n ≤ 100000 := by omega
  clear hn
  go_enter Tryd.func53, Tryd.ntmps53
  go_wp2_with fail
  refine (byprefix_any oa oc old W ho (HOR.out.below HB.out)).mono ?_
  rintro e w1 ⟨m, rfl, hm, m1, b1⟩
  have HM1 := hide m1
  have H1 : Hid (J (newL old (fresh.take 0) f) H w1) := HJ.out.stays H0.out (Keeps.of_below b1 _)
  have HK1 : Hid (Keeps H W w1) := Keeps.of_below b1 _
  have hcY1 : w1.cell? ⟨Y, 0, none⟩ = some (.slice fa n fc) := by rw [b1.cell (p := ⟨Y, 0, none⟩) (World.block_lt_of_cell? W _ hcY)]; exact hcY
  have HSZ : Hid (∀ k, H k → k < W.heap.size) := HJ.out.lt H0.out
  clear m1 b1 H0 hcX hcY
  go_wp2_with fail
  go_loopw [13] (fun v wr => ∃ (k : Nat) (Hc : Nat → Prop), v = .int .i64 (k : Int) ∧ k ≤ n ∧ Hid (J (newL old (fresh.take k) f) Hc wr) ∧ Hid (∀ x, Hc x → H x ∨ (W.heap.size ≤ x ∧ x ≠ m)) ∧ Hid (Keeps H W wr) ∧ Hid (PMap wr m (byP old))) (fun v _ => n - (intOf v).toNat)
  case atStart => exact ⟨0, H, by simp, by omega, H1, fun x h => .inl h, HK1, HM1⟩
  case round =>
    obtain ⟨k, Hc, rfl, hk, HJc, HS, HK, HM⟩ := hrel
    clear H1 HK1 HM1 hcY1
    by_cases hkn : k < n
    · have hk1 : k < fresh.length := by rw [← HN.out]; exact hkn
      have hbw : Below wb.heap.size W wr := HK.out.below _ HB.out.size (fun b h => HNB.out b h)
      obtain ⟨bb, off, rfl, hc⟩ := (HFR.out.below (HB.out.trans hbw)).1 (by omega)
      have HT := hide (hc k _ (List.getElem?_eq_getElem hk1))
      have HAC := hide (HFR.out.2 _ (List.getElem_mem hk1))
      have HGE : Hid (fresh[k]? = some fresh[k]) := List.getElem?_eq_getElem hk1
      have HTA := hide (HFA.out _ (List.getElem_mem hk1))
      generalize fresh[k] = t at HT HAC HGE HTA
      clear hc hk1 hbw
      have j1 : (k : Int) < (n : Int) := by omega
      go_wp2_with fail
      refine kept_load_intro _ _ (.agg (tlC t)) (by rfl) (run_loadT_at (i := k) HT.out HAC.out) ?_
      go_wp2_with fail
      refine kept_alloc_intro _ (run_allocT _) ?_
      go_wp2_with fail
      refine kept_store_intro _ _ _ (.agg (tlC t)) (by rfl) (by rfl) ((Bk.new 54 wr zT).store 54 (tlC_ok HAC.out).1 (by rw [infoT, (tlC_ok HAC.out).1]) (tlC_ok HAC.out).2) ?_
      have HX := hide ((Bk.new 54 wr zT).put (C := tlC t) (tlC_ok HAC.out).1)
      have hb3 : Below wr.heap.size wr ((wr.alloc (.cells zT 54)).setCells wr.heap.size 0 (tlC t).toList) := below_puts ((Below.refl _ _).alloc (Nat.le_refl _) _) (Nat.le_refl _) _
      have HM3 := hide (HM.out.later hb3)
      have HJ3 := hide (HJ.out.stays HJc.out (Keeps.of_below hb3 _))
      have HK3 : Hid (Keeps H W ((wr.alloc (.cells zT 54)).setCells wr.heap.size 0 (tlC t).toList)) := HK.out.trans (Keeps.of_below hb3 (fun _ => False)) (fun _ _ h => h.elim)
      clear hb3 HM HJc HK HT
      generalize (wr.alloc (.cells zT 54)).setCells wr.heap.size 0 (tlC t).toList = w3 at *
      generalize wr.heap.size = X3 at *
      have p0 : w3.cell? ⟨X3, 0, none⟩ = some (.int .u32 (t.A : Int)) := HX.out.cell 0 (tlC_0 t)
      have p1 : w3.cell? ⟨X3, 1, none⟩ = some (.int .i64 t.L) := HX.out.cell 1 (tlC_1 t)
      go_wp2_with fail
      refine kept_look_intro _ _ _ _ _ _ (by rfl) (by rfl) (HM3.out.look t.A t.L w3 rfl) ?_
      have HFC := hide (ac_found HOR.out.2 t.A t.L)
      have HGB : Hid (newB old f t = !((byP old t.A t.L).isSome && eqA (f (foundC (byP old t.A t.L))) (f t.C))) := rfl
      have HCA : Hid ((byP old t.A t.L).isSome = true → CellAt wb f (foundC (byP old t.A t.L))) := fun h => by
        cases hf : byP old t.A t.L with
        | none => rw [hf] at h; cases h
        | some C =>
          obtain ⟨x, hx, _, _, rfl⟩ := byP_mem _ _ _ _ hf
          exact HOA.out x hx
      generalize foundC (byP old t.A t.L) = C at HFC HGB HCA ⊢
      go_wp2_with fail
      refine kept_alloc_intro _ (run_allocA _) ?_
      go_wp2_with fail
      refine kept_store_intro _ _ _ (.agg C) (by rfl) (by rfl) ((Bk.new 34 w3 zA).store 34 HFC.out.1 (by rw [infoA, HFC.out.1]) HFC.out.2) ?_
      have HZ := hide ((Bk.new 34 w3 zA).put (C := C) HFC.out.1)
      have hb4 : Below w3.heap.size w3 ((w3.alloc (.cells zA 34)).setCells w3.heap.size 0 C.toList) := below_puts ((Below.refl _ _).alloc (Nat.le_refl _) _) (Nat.le_refl _) _
      have HX4 := hide (HX.out.below hb4 HX.out.lt)
      have HM4 := hide (HM3.out.later hb4)
      have HJ4 := hide (HJ.out.stays HJ3.out (Keeps.of_below hb4 _))
      have HK4 : Hid (Keeps H W ((w3.alloc (.cells zA 34)).setCells w3.heap.size 0 C.toList)) := HK3.out.trans (Keeps.of_below hb4 (fun _ => False)) (fun _ _ h => h.elim)
      clear hb4 HM3 HJ3 HK3 HX p0 p1
      generalize (w3.alloc (.cells zA 34)).setCells w3.heap.size 0 C.toList = w4 at *
      generalize w3.heap.size = X4 at *
      generalize (byP old t.A t.L).isSome = z at HGB HCA ⊢
      go_upto_region 5 with fail
      go_cut [30] (fun v wq => v = .bool (!newB old f t) ∧ Hid (Below w4.heap.size w4 wq))
      case first =>
        cases z with
        | false =>
          have HG : Hid ((!newB old f t) = false) := by show _ = _; rw [HGB.out]; rfl
          go_wp2_with fail
          go_meet
          case rel => exact ⟨by rw [HG.out], Below.refl _ _⟩
        | true =>
          obtain ⟨pa, pc, ca, cc, ra, rc, e1, r1, z1⟩ := HCA.out rfl
          obtain ⟨pa2, pc2, ca2, cc2, ra2, rc2, e2, r2, z2⟩ := HTA.out
          have HG : Hid ((!newB old f t) = eqA (f C) (f t.C)) := by show _ = _; rw [HGB.out]; simp
          have hbw4 : Below wb.heap.size wb w4 := HB.out.trans (HK4.out.below _ HB.out.size (fun b h => HNB.out b h))
          have HR1 := hide (r1.below hbw4)
          have HR2 := hide (r2.below hbw4)
          have HE1 := hide e1
          have HE2 := hide e2
          have HZ1 := hide z1
          clear e1 r1 z1 e2 r2 z2 hbw4
          go_wp2_with fail
          refine kept_load_intro _ _ (.agg C) (by rfl) (HZ.out.load 0 34 _ C.toList (fun j v hv => by rw [Nat.zero_add, ← Array.getElem?_toList]; exact hv) Tryd.underlying34 rfl (by rw [infoA]; simp [HFC.out.1]) _ (by simp)) ?_
          go_wp2_with fail
          refine kept_load_intro _ _ (.agg t.C) (by rfl) (HX4.out.load 2 34 _ t.C.toList tl_split Tryd.underlying34 rfl (by rw [infoA]; simp [HAC.out.1]) _ (by simp)) ?_
          go_wp2_with fail
          have hs9 := psame_any pa ca ra pa2 ca2 ra2 pc cc rc pc2 cc2 rc2 (f C) (f t.C) w4 HZ1.out HR1.out HR2.out
          rw [atV_eq, atV_eq, ← HE1.out, ← HE2.out] at hs9
          refine hs9.mono ?_
          clear hs9
          rintro e w5 ⟨rfl, b5⟩
          have HB5 := hide b5
          clear b5
          generalize eqA (f C) (f t.C) = q at HG ⊢
          go_wp2_with fail
          go_meet
          case rel => exact ⟨by rw [HG.out], HB5⟩
      case rest =>
        obtain ⟨rfl, HB5⟩ := hcut
        have HX5 := hide (HX4.out.below HB5.out HX4.out.lt)
        have HM5 := hide (HM4.out.later HB5.out)
        have HJ5 := hide (HJ.out.stays HJ4.out (Keeps.of_below HB5.out _))
        have HK5 : Hid (Keeps H W wc) := HK4.out.trans (Keeps.of_below HB5.out (fun _ => False)) (fun _ _ h => h.elim)
        clear HX4 HM4 HJ4 HK4 HB5 HZ HCA HFC HGB
        cases hg : newB old f t with
        | false =>
          have HG : Hid (newB old f t = false) := hg
          clear hg
          go_wp2_with fail
          go_roundw
          case rel => exact ⟨k + 1, Hc, by simp, by omega, by rw [newL_no old fresh f k t HGE.out HG.out]; exact HJ5, HS, HK5, HM5⟩
          case measure => simp [intOf]; omega
        | true =>
          have HG : Hid (newB old f t = true) := hg
          clear hg
          go_upto_region 6 with fail
          have hy9 := HYD.out (newL old (fresh.take k) f) t (.agg (tlC t)) (fun _ => False) Hc wc (newL_rest old fresh f k t HGE.out HG.out) HJ5.out HK5.out ⟨rfl, fun _ h => h⟩ (fun _ h => h.elim)
          obtain ⟨fn9, tmps9, assign9, body9, hy, hR⟩ := hy9
          have hR2 := hide hR
          clear hR
          refine (wpIn_wide (n := 0)).1 ?_
          gi_wp2
          refine keptIn_load (fun _ => trivial) _ _ (.agg (tlC t)) (by rfl) (HX5.out.load 0 54 _ (tlC t).toList (fun j v hv => by rw [Nat.zero_add, ← Array.getElem?_toList]; exact hv) Tryd.underlying54 rfl (by rw [infoT]; simp [(tlC_ok HAC.out).1]) _ (by simp)) ?_
          gi_wp2
          refine ⟨rfl, hR2.out.mono ?_⟩
          clear hR2 hy
          rintro e w5 ⟨rfl, H5, j5, k5, s5⟩
          have HJ6 : Hid (J (newL old (fresh.take (k + 1)) f) H5 w5) := by show J _ _ _; rw [newL_yes old fresh f k t HGE.out HG.out]; exact j5
          have hs4 := HK5.out.size
          have HK6 : Hid (Keeps H W w5) := HK5.out.trans k5 (fun b hb h => by
            rcases HS.out b h with h1 | h1
            · exact h1
            · omega)
          have HM6 : Hid (PMap w5 m (byP old)) := HM5.out.keeps k5 (fun h => by
            rcases HS.out m h with h1 | h1
            · have := HSZ.out m h1; omega
            · exact h1.2 rfl)
          have HS6 : Hid (∀ x, H5 x → H x ∨ W.heap.size ≤ x ∧ x ≠ m) := fun x hx => by
            rcases s5 x hx with h1 | h1 | h1
            · exact HS.out x h1
            · exact h1.elim
            · have := HM5.out.lt
              exact .inr ⟨by omega, by omega⟩
          clear j5 k5 s5 HM5 HK5 HJ5 hs4
          gi_wp2
          go_wp2
          go_roundw
          case rel => exact ⟨k + 1, H5, by simp, by omega, HJ6, HS6, HK6, HM6⟩
          case measure => simp [intOf]; omega
    · have : k = n := by omega
      subst this
      have HJ9 : Hid (J (newL old fresh f) Hc wr) := by
        have h9 := HJc.out
        rw [List.take_of_length_le (by rw [← HN.out]; exact Nat.le_refl _)] at h9
        exact h9
      go_wp2
      refine bodyPost_end (results_none rfl _ _ _) rfl ⟨⟨_, rfl⟩, Hc, HJ9.out, HK.out, fun x hx => ?_⟩
      rcases HS.out x hx with h | h
      · exact .inl h
      · exact .inr h.1
end
end Go.Proofs.YthigjonagbfbbaaDoor
