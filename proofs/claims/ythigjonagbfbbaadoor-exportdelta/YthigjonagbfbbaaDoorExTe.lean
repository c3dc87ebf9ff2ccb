/- Things told, in order: the law's own function. -/
import Derived.Test.YthigjonagbfbbaaDoorExTd
import Derived.Test.YthigjonagbfbbaaDoorKAp
import Derived.Test.YthigjonagbfbbaaDoorMix
import Derived.Deep.QuietTactic
import Derived.BigQuiet
import Derived.Deep.DeepCutAuto
namespace Go.Proofs.YthigjonagbfbbaaDoor
open Go.RowKit
set_option maxRecDepth 100000

theorem Bk.tatt {w : World} {X : Nat} {t : Tl} (h : Bk 54 w X (tlC t)) (hC : AC t.C) : (Instr.loadAt 34 (.pointer (some ⟨X, 2, none⟩))).run Tryd.prog w = .ok (.agg t.C) w :=
  h.load 2 34 _ t.C.toList (fun j v hv => by rw [tlC_get, ← Array.getElem?_toList]; exact hv) Tryd.underlying34 rfl (by rw [infoA]; simp [hC.1]) _ (by simp)
section
variable {P : Program} {ops : Array Oper} {Q : Exit → Act → World → Prop} {S : World → Prop} {L : Nat → Bool}
theorem ord_sk {o : Oper} {l : List Nat} {k : Nat} {a a' : Act} {w : World} (hL : L k = false) (ho : ops[k]? = some o) (hw : Region.wanted o (yielded ops a.tmps) = false) (ha : a.put o.dst undef = a') (h : wpOrd P ops Q S L l a' w) :
    wpOrd P ops Q S L (k :: l) a w := by
  rw [wpOrd, if_neg (by rw [hL]; simp)]
  exact ⟨o, undef, ho, .inr ⟨hw, rfl⟩, by rw [ha]; exact h⟩
end
section
attribute [local go_sem ↓] keptT_build keptT_bs keptT_load keptT_store keptT_alloc keptA_load Go.wp_at_zero Go.wp_at_succ
set_option maxHeartbeats 6400000 in
theorem told_any (a : Option Addr) (c : Nat) (l : List TE) (w : World) (hl : l.length ≤ 100000) (hr : TlsRd w a (l.map Prod.fst)) (ht : ∀ p ∈ l, TlAt w p) (hg : ∀ p ∈ l, BigT p.2) :
    Calls Tryd.prog 16 #[.slice a l.length c] w fun e w' => ∃ v, e = .returned v ∧ TlOwn w' w.heap.size v ((toldT l).map Prod.fst) ∧ Below w.heap.size w w' := by
  have HR := hide hr
  have HT := hide ht
  have HG := hide hg
  clear hr ht hg
  obtain ⟨n, hn⟩ : ∃ n, n = l.length := ⟨_, rfl⟩
  rw [← hn] at hl ⊢
  have HN := hide hn
  clear hn
  go_enter Tryd.func16, Tryd.ntmps16
  go_wp2_with fail
  have HL0 : Hid (TlOwn w w.heap.size (.slice none 0 0) ((toldT (l.take 0)).map Prod.fst)) := own_nil _ _ _ _
  have HB0 : Hid (Below w.heap.size w w) := Below.refl _ _
  go_loopw [3, 4] (fun v i wq => ∃ j : Nat, j ≤ n ∧ i = .int .i64 j ∧ Hid (TlOwn wq w.heap.size v ((toldT (l.take j)).map Prod.fst)) ∧ Hid (Below w.heap.size w wq)) (fun _ i _ => n - (intOf i).toNat)
  case atStart => exact ⟨0, Nat.zero_le _, rfl, HL0, HB0⟩
  case round =>
    clear HL0 HB0
    obtain ⟨j, hj, rfl, HO, HB⟩ := hrel
    obtain ⟨ao, co, hv⟩ := own_shape HO.out
    rw [List.length_map] at hv
    subst hv
    by_cases hjn : j < n
    · have hj0 : (0 : Int) ≤ (j : Int) := Int.natCast_nonneg _
      have hj1 : (j : Int) < (n : Int) := by omega
      have hjd : decide ((j : Int) < (n : Int)) = true := decide_eq_true hj1
      by_cases h4 : (toldT (l.take j)).length < 400
      · have hjl : j < l.length := by rw [← HN.out]; exact hjn
        obtain ⟨x, hx⟩ : ∃ x, l[j]? = some x := ⟨l[j], List.getElem?_eq_getElem hjl⟩
        have hxm : x ∈ l := List.mem_of_getElem? hx
        have HTX := hide (HT.out x hxm)
        have HGX := hide (HG.out x hxm)
        have HTS : Hid (toldT (l.take (j + 1)) = toldStep (toldT (l.take j)) x) := by
          show _ = _
          rw [show l.take (j + 1) = l.take j ++ [x] by rw [List.take_succ_eq_append_getElem hjl]; congr 2; exact (List.getElem?_eq_some_iff.1 hx).2, toldT_snoc]
        obtain ⟨b, off, e, hc⟩ := (HR.out.below (HB.out.mono (Nat.le_refl _))).1 (by rw [List.length_map]; omega)
        subst e
        have HC := hide (hc j x.1 (by rw [List.getElem?_map, hx]; rfl))
        have HOM : Hid (∀ y ∈ toldT (l.take j), TlAt w y) := fun y hy => HT.out y (List.mem_of_mem_take (toldT_mem _ y hy).1)
        generalize toldT (l.take j) = o at *
        have h4d : decide ((o.length : Int) < 400) = true := decide_eq_true (by omega)
        clear hc hx
        go_wp2_with fail
        refine kept_load_intro _ _ (.agg (tlC x.1)) (by rfl) (run_loadT_at HC.out HTX.out.ac) ?_
        go_wp2_with fail
        refine kept_alloc_intro _ (run_allocT wr) ?_
        go_wp2_with fail
        refine kept_store_intro _ _ _ (.agg (tlC x.1)) (by rfl) (by rfl) ((Bk.new 54 wr zT).store 54 (tlC_ok HTX.out.ac).1 (by rw [infoT, (tlC_ok HTX.out.ac).1]) (tlC_ok HTX.out.ac).2) ?_
        have hb1 : Below wr.heap.size wr ((wr.alloc (.cells zT 54)).setCells wr.heap.size 0 (tlC x.1).toList) := below_puts ((Below.refl _ _).alloc (Nat.le_refl _) _) (Nat.le_refl _) _
        have HX1 : Hid (Bk 54 ((wr.alloc (.cells zT 54)).setCells wr.heap.size 0 (tlC x.1).toList) wr.heap.size (tlC x.1)) := (Bk.new 54 wr zT).put (tlC_ok HTX.out.ac).1
        have HO1 := hide (own_later HO.out hb1)
        have HB1 : Hid (Below w.heap.size w ((wr.alloc (.cells zT 54)).setCells wr.heap.size 0 (tlC x.1).toList)) := HB.out.trans (hb1.mono HB.out.size)
        have hXw : w.heap.size ≤ wr.heap.size := HB.out.size
        clear hb1 HO HB HC
        generalize (wr.alloc (.cells zT 54)).setCells wr.heap.size 0 (tlC x.1).toList = w1 at *
        generalize wr.heap.size = X at *
        have p0 := HX1.out.cell 0 (tlC_0 x.1)
        have p1 := HX1.out.cell 1 (tlC_1 x.1)
        go_wp2_with fail
        refine (rright_is (A := x.1.A) (L := x.1.L) w1 rfl).mono ?_
        rintro e w2 ⟨rfl, b2⟩
        have HX2 := hide (HX1.out.below b2 HX1.out.lt)
        have HO2 := hide (own_later HO1.out b2)
        have HB2 : Hid (Below w.heap.size w w2) := HB1.out.trans (b2.mono HB1.out.size)
        clear p0 p1 HX1 HO1 HB1 b2
        cases hri : rightB x.1.A x.1.L with
        | false =>
          have HE : Hid (toldT (l.take (j + 1)) = o) := by show _ = _; rw [HTS.out]; unfold toldStep; rw [if_neg]; intro h9; have := h9.2; unfold okT at this; rw [hri] at this; cases this
          go_wp2_with fail
          exact ⟨⟨j + 1, by omega, by go_num, by rw [HE.out]; exact HO2, HB2⟩, by simp [intOf]; omega⟩
        | true =>
          obtain ⟨_, pa, pc, ca, cc, ra, rc, hxC, hxr⟩ := HTX.out
          have HXC := hide hxC
          have HXR := hide hxr
          clear hxC hxr
          go_wp2_with fail
          refine kept_load_intro _ _ (.agg x.1.C) (by rfl) (HX2.out.tatt HTX.out.ac) ?_
          go_wp2_with fail
          have HSM := hide (smalla_any pa pc ca cc ra rc x.2 w2 HGX.out.path HGX.out.segs HGX.out.comms HGX.out.raws HGX.out.datas (HXR.out.below (HB2.out)))
          rw [show (.agg x.1.C : Value) = atV pa pc ca cc ra rc x.2 by rw [HXC.out]; rfl]
          refine HSM.out.mono ?_
          rintro e w3 ⟨rfl, b3⟩
          have HX3 := hide (HX2.out.below b3 HX2.out.lt)
          have HO3 := hide (own_later HO2.out b3)
          have HB3 : Hid (Below w.heap.size w w3) := HB2.out.trans (b3.mono HB2.out.size)
          clear HX2 HO2 HB2 b3 HSM
          cases hsm : smallA x.2 with
          | false =>
            have HE : Hid (toldT (l.take (j + 1)) = o) := by show _ = _; rw [HTS.out]; unfold toldStep; rw [if_neg]; intro h9; have := h9.2; unfold okT at this; rw [hri, hsm] at this; cases this
            go_wp2_with fail
            exact ⟨⟨j + 1, by omega, by go_num, by rw [HE.out]; exact HO3, HB3⟩, by simp [intOf]; omega⟩
          | true =>
            have HE : Hid (toldT (l.take (j + 1)) = insT x o) := by show _ = _; rw [HTS.out]; unfold toldStep; rw [if_pos ⟨h4, by unfold okT; rw [hri, hsm]; rfl⟩]
            go_wp2_with fail
            have HN0 : Hid (TlOwn w3 w3.heap.size (.slice none 0 0) ((insRun x (o.take 0)).1.map Prod.fst)) := own_nil _ _ _ _
            have HW0 : Hid (Below w3.heap.size w3 w3) := Below.refl _ _
            go_loopw [6, 7, 8] (fun v b i wq => ∃ k : Nat, k ≤ o.length ∧ i = .int .i64 k ∧ b = .bool (insRun x (o.take k)).2 ∧ Hid (TlOwn wq w3.heap.size v ((insRun x (o.take k)).1.map Prod.fst)) ∧ Hid (Below w3.heap.size w3 wq)) (fun _ _ i _ => o.length - (intOf i).toNat)
            case atStart => exact ⟨0, Nat.zero_le _, rfl, rfl, HN0, HW0⟩
            case round =>
              clear HN0 HW0
              obtain ⟨k, hk, rfl, rfl, HV, HW⟩ := hrel
              obtain ⟨av, cv, hv⟩ := own_shape HV.out
              rw [List.length_map] at hv
              subst hv
              by_cases hko : k < o.length
              · have hk0 : (0 : Int) ≤ (k : Int) := Int.natCast_nonneg _
                have hk1 : (k : Int) < (o.length : Int) := by omega
                obtain ⟨y, hy⟩ : ∃ y, o[k]? = some y := ⟨o[k], List.getElem?_eq_getElem hko⟩
                have HTY := hide (HOM.out y (List.mem_of_getElem? hy))
                have HRS : Hid (insRun x (o.take (k + 1)) = insStep x (insRun x (o.take k)) y) := by
                  show _ = _
                  rw [show o.take (k + 1) = o.take k ++ [y] by rw [List.take_succ_eq_append_getElem hko]; congr 2; exact (List.getElem?_eq_some_iff.1 hy).2, insRun_snoc]
                have hlen : (insRun x (o.take k)).1.length ≤ 800 := by
                  have := insRun_len x (o.take k)
                  rw [List.length_take] at this
                  omega
                obtain ⟨ao2, co2, e2, hrd3⟩ := TlOwn.rd HO3.out (fun t ht => by obtain ⟨z, hz, rfl⟩ := List.mem_map.1 ht; exact (HOM.out z hz).ac)
                rw [List.length_map] at e2
                injection e2 with e3 e6 e5
                subst e3 e5
                clear e6
                obtain ⟨bo, offo, e4, hco⟩ := hrd3.1 (by rw [List.length_map]; omega)
                subst e4
                have HC3 := hide (hco k y.1 (by rw [List.getElem?_map, hy]; rfl))
                have HCW : Hid (∀ W, Below w3.heap.size w3 W → ∀ (j : Nat) (v : Value), (tlC y.1)[j]? = some v → W.cell? ⟨bo, offo + k * 9 + j, none⟩ = some v) := fun W hb j v hv => by
                  have h1 := HC3.out j v hv
                  rw [hb.cell (World.block_lt_of_cell? w3 _ h1)]
                  exact h1
                have HCY := hide (HCW.out wr HW.out)
                have HXr := hide (HX3.out.below HW.out HX3.out.lt)
                have p0 := HXr.out.cell 0 (tlC_0 x.1)
                have p1 := HXr.out.cell 1 (tlC_1 x.1)
                have q0 := HCY.out 0 _ (tlC_0 y.1)
                have q1 := HCY.out 1 _ (tlC_1 y.1)
                rw [Nat.add_zero] at q0
                have HNX := hide HRS.out
                obtain ⟨nx, hnx⟩ : ∃ nx, nx = (insRun x (o.take k)).1 := ⟨_, rfl⟩
                obtain ⟨pl, hpl⟩ : ∃ pl, pl = (insRun x (o.take k)).2 := ⟨_, rfl⟩
                have HRS2 : Hid (insRun x (o.take (k + 1)) = insStep x (nx, pl) y) := by show _ = _; rw [HRS.out, hnx, hpl]
                rw [← hnx] at HV hlen ⊢
                rw [← hpl]
                clear HRS HNX hnx hpl hrd3 hco
                go_upto_region 12 with fail
                go_cut [61] (fun v wq => v = .bool (!pl && (lessT x y || samePB x y)) ∧ Hid (Below wr.heap.size wr wq))
                case first =>
                  cases pl with
                  | true =>
                    go_quiet (fail)
                    go_wp2_with fail
                    go_meet
                    case rel => exact ⟨rfl, below_drewN (Below.refl _ _) _⟩
                  | false =>
                    have qd : ∀ W, Below wr.heap.size wr W → W.cell? ⟨X, 0, none⟩ = some (.int .u32 (x.1.A : Int)) ∧ W.cell? ⟨X, 1, none⟩ = some (.int .i64 x.1.L) ∧ W.cell? ⟨bo, offo + k * 9, none⟩ = some (.int .u32 (y.1.A : Int)) ∧ W.cell? ⟨bo, offo + k * 9 + 1, none⟩ = some (.int .i64 y.1.L) := fun W hb =>
                      ⟨by rw [hb.cell (World.block_lt_of_cell? wr _ p0)]; exact p0, by rw [hb.cell (World.block_lt_of_cell? wr _ p1)]; exact p1, by rw [hb.cell (World.block_lt_of_cell? wr _ q0)]; exact q0, by rw [hb.cell (World.block_lt_of_cell? wr _ q1)]; exact q1⟩
                    refine region_ord (fun W => Below wr.heap.size wr W) (fun k => k == 10) [0, 1, 2, 3, 4, 5, 6, 7, 8, 9, 10, 11, 12, 13, 14, 15, 16, 17, 18, 19, 20, 21] (by kernel_rfl) (by kernel_rfl) (by rfl) (by kernel_rfl) (Below.refl _ _).drew ?_
                    iterate 10 refine ord_q (by rfl) (by rfl) (by rfl) (fun w9 h9 => (by obtain ⟨s0, s1, s2, s3⟩ := qd w9 h9; go_simp; first | done | rfl)) (by go_simp; first | done | rfl) ?_
                    refine ord_l (by rfl) (by rfl) (by rfl) ?_
                    go_simp
                    refine (less_any x.1.A y.1.A x.1.L y.1.L wr.drew).mono ?_
                    rintro e w5 ⟨rfl, b5⟩
                    have B5 : Below wr.heap.size wr w5 := (Below.refl _ _).drew.trans b5
                    refine ⟨B5, ?_⟩
                    have HLS : Hid (lessT x y = lessB x.1.A x.1.L y.1.A y.1.L) := rfl
                    cases hls : lessB x.1.A x.1.L y.1.A y.1.L with
                    | true =>
                      refine ord_q (by rfl) (by rfl) (by rfl) (fun w9 h9 => (by obtain ⟨s0, s1, s2, s3⟩ := qd w9 h9; go_simp; first | done | rfl)) (by go_simp; first | done | rfl) ?_
                      iterate 8 refine ord_sk (by rfl) (by rfl) (by rfl) (by go_simp; first | done | rfl) ?_
                      iterate 2 refine ord_q (by rfl) (by rfl) (by rfl) (fun w9 h9 => (by obtain ⟨s0, s1, s2, s3⟩ := qd w9 h9; go_simp; first | done | rfl)) (by go_simp; first | done | rfl) ?_
                      refine ⟨fun _ h => (by cases h), ?_⟩
                      go_wp2_with fail
                      go_meet
                      case rel => exact ⟨by rw [HLS.out, hls]; rfl, B5⟩
                    | false =>
                      iterate 8 refine ord_q (by rfl) (by rfl) (by rfl) (fun w9 h9 => (by obtain ⟨s0, s1, s2, s3⟩ := qd w9 h9; go_simp; first | done | rfl)) (by go_simp; first | done | rfl) ?_
                      refine ord_q (v := .bool (samePB x y)) (by rfl) (by rfl) (by rfl) (fun w9 h9 => (by
                        obtain ⟨s0, s1, s2, s3⟩ := qd w9 h9
                        go_simp
                        unfold samePB
                        by_cases h1 : x.1.A = y.1.A
                        · by_cases h2 : x.1.L = y.1.L
                          · simp [h1, h2]
                          · simp [h1, h2]
                        · simp [h1]
                          intro h9
                          exact absurd (by omega) h1)) (by go_simp; first | done | rfl) ?_
                      iterate 2 refine ord_q (by rfl) (by rfl) (by rfl) (fun w9 h9 => (by go_simp; first | done | rfl)) (by go_simp; first | done | rfl) ?_
                      refine ⟨fun _ h => (by cases h), ?_⟩
                      go_wp2_with fail
                      go_meet
                      case rel => exact ⟨by rw [HLS.out, hls]; rfl, B5⟩
                case rest =>
                  obtain ⟨rfl, HBq⟩ := hcut
                  obtain ⟨s1, hs1⟩ : ∃ s1, s1 = (if (!pl && (lessT x y || samePB x y)) then nx ++ [x] else nx) := ⟨_, rfl⟩
                  obtain ⟨s2, hs2⟩ : ∃ s2, s2 = (if (!pl && (lessT x y || samePB x y)) then true else pl) := ⟨_, rfl⟩
                  have HRS3 : Hid (insRun x (o.take (k + 1)) = if samePB y x then (s1, s2) else (s1 ++ [y], s2)) := by
                    show _ = _
                    rw [HRS2.out, hs1, hs2]
                    unfold insStep
                    simp only
                    cases (!pl && (lessT x y || samePB x y)) <;> rfl
                  have HS1 := hide hs1
                  have HS2 := hide hs2
                  clear hs1 hs2 HRS2 p0 p1 q0 q1
                  have hs1l : s1.length ≤ 801 := by rw [HS1.out]; split <;> (try simp only [List.length_append, List.length_cons, List.length_nil]) <;> omega
                  generalize (!pl && (lessT x y || samePB x y)) = tst at *
                  have HWq : Hid (Below w3.heap.size w3 wc) := HW.out.trans (HBq.out.mono HW.out.size)
                  have HVq := hide (own_later HV.out HBq.out)
                  have HXq := hide (HX3.out.below HWq.out HX3.out.lt)
                  go_upto_if 61 with fail
                  go_cut [6, 7] (fun v b wq => ∃ a1 c1, v = .slice a1 s1.length c1 ∧ b = .bool s2 ∧ Hid (TlOwn wq w3.heap.size v (s1.map Prod.fst)) ∧ Hid (Below w3.heap.size w3 wq))
                  case first =>
                    cases tst with
                    | true =>
                      have HE1 : Hid (s1 = nx ++ [x] ∧ s2 = true) := ⟨HS1.out, HS2.out⟩
                      obtain ⟨a5, c5, w5, hr5, ho5, hb5⟩ := tl_more HVq.out HWq.out.size x.1 HTX.out.ac (by rw [List.length_map]; omega)
                      rw [List.length_map] at hr5
                      have HR5 := hide hr5
                      have HO5 : Hid (TlOwn w5 w3.heap.size (.slice a5 (nx.length + 1) c5) (s1.map Prod.fst)) := by show TlOwn _ _ _ _; rw [HE1.out.1]; rw [List.map_append, List.length_map] at *; exact ho5
                      have HB5 : Hid (Below w3.heap.size w3 w5) := HWq.out.trans hb5
                      have hl5 : s1.length = nx.length + 1 := by rw [HE1.out.1]; simp
                      have hs2 := HE1.out.2
                      clear hr5 ho5 hb5
                      go_wp2_with fail
                      refine kept_load_intro _ _ (.agg (tlC x.1)) (by rfl) (HXq.out.whole _ Tryd.underlying54 rfl (by rw [infoT, (tlC_ok HTX.out.ac).1])) ?_
                      go_wp2_with fail
                      refine kept_exec (exec_bs1 _ _ _ (by rfl) (run_bsE HTX.out _)) ?_
                      go_wp2_with ((with_reducible refine wpl_append _ _ 48 _ (.slice (some ⟨wc.heap.size, 0, none⟩) 1 1) _ ?_ ?_ HR5.out ?_); (· rfl); (· rfl))
                      go_meet
                      case rel => exact ⟨a5, c5, by rw [hl5], by rw [hs2], HO5, HB5⟩
                    | false =>
                      have HE1 : Hid (s1 = nx ∧ s2 = pl) := ⟨HS1.out, HS2.out⟩
                      go_wp2_with fail
                      go_meet
                      case rel => exact ⟨av, cv, by rw [HE1.out.1], by rw [HE1.out.2], by rw [HE1.out.1]; exact HVq, HWq⟩
                  case rest =>
                    obtain ⟨a1, c1, rfl, rfl, HV6, HW6⟩ := hcut
                    obtain ⟨wz, hwz⟩ : ∃ wz : World, wz = wc := ⟨wc, rfl⟩
                    subst hwz
                    have HX6 := hide (HX3.out.below HW6.out HX3.out.lt)
                    have HC6 := hide (HCW.out _ HW6.out)
                    have p0 := HX6.out.cell 0 (tlC_0 x.1)
                    have p1 := HX6.out.cell 1 (tlC_1 x.1)
                    have q0 := HC6.out 0 _ (tlC_0 y.1)
                    have q1 := HC6.out 1 _ (tlC_1 y.1)
                    rw [Nat.add_zero] at q0
                    cases hsp : samePB y x with
                    | true =>
                      have hs9 : y.1.A = x.1.A ∧ y.1.L = x.1.L := of_decide_eq_true hsp
                      rw [hs9.1] at q0
                      rw [hs9.2] at q1
                      have HE4 : Hid (insRun x (o.take (k + 1)) = (s1, s2)) := by show _ = _; rw [HRS3.out, hsp]; rfl
                      clear hsp hs9
                      go_wp2_with fail
                      go_quiet (fail)
                      go_wp2_with fail
                      exact ⟨⟨k + 1, by omega, by go_num, by rw [HE4.out], by rw [HE4.out]; exact own_later HV6.out (below_drewN (Below.refl _ _) _), below_drewN HW6.out _⟩, by simp [intOf]; omega⟩
                    | false =>
                      have HE4 : Hid (insRun x (o.take (k + 1)) = (s1 ++ [y], s2)) := by show _ = _; rw [HRS3.out, hsp]; rfl
                      have hne : ¬ ((y.1.A : Int) = (x.1.A : Int) ∧ y.1.L = x.1.L) := by
                        have h9 := of_decide_eq_false hsp
                        intro h8
                        exact h9 ⟨by omega, h8.2⟩
                      clear hsp
                      have WAY : (¬ (y.1.A : Int) = (x.1.A : Int)) ∨ ((y.1.A : Int) = (x.1.A : Int) ∧ ¬ y.1.L = x.1.L) := by
                        by_cases h1 : (y.1.A : Int) = (x.1.A : Int)
                        · exact .inr ⟨h1, fun h2 => hne ⟨h1, h2⟩⟩
                        · exact .inl h1
                      clear hne
                      rcases WAY with h1 | ⟨h1, h2⟩
                      · go_wp2_with fail
                        go_quiet (fail)
                        have HV7 : Hid (TlOwn (World.drewN wz nq) w3.heap.size (.slice a1 s1.length c1) (s1.map Prod.fst)) := own_later HV6.out (below_drewN (Below.refl _ _) _)
                        have HW7 : Hid (Below w3.heap.size w3 (World.drewN wz nq)) := below_drewN HW6.out _
                        have HC7 := hide (HCW.out _ HW7.out)
                        clear HV6 HW6 HC6 HX6 p0 p1 q0 q1
                        generalize World.drewN wz nq = w7 at *
                        obtain ⟨a5, c5, w5, hr5, ho5, hb5⟩ := tl_more HV7.out HW7.out.size y.1 HTY.out.ac (by rw [List.length_map]; omega)
                        rw [List.length_map] at hr5
                        have HR5 := hide hr5
                        have HO5 : Hid (TlOwn w5 w3.heap.size (.slice a5 (s1.length + 1) c5) ((s1 ++ [y]).map Prod.fst)) := by show TlOwn _ _ _ _; rw [List.map_append, List.length_map] at *; exact ho5
                        have HB5 : Hid (Below w3.heap.size w3 w5) := HW7.out.trans hb5
                        clear hr5 ho5 hb5
                        go_wp2_with fail
                        refine kept_load_intro _ _ (.agg (tlC y.1)) (by rfl) (run_loadT_at HC7.out HTY.out.ac) ?_
                        go_wp2_with fail
                        refine kept_exec (exec_bs1 _ _ _ (by rfl) (run_bsE HTY.out _)) ?_
                        go_wp2_with ((with_reducible refine wpl_append _ _ 48 _ (.slice (some ⟨w7.heap.size, 0, none⟩) 1 1) _ ?_ ?_ HR5.out ?_); (· rfl); (· rfl))
                        exact ⟨⟨k + 1, by omega, by go_num, by rw [HE4.out], by rw [HE4.out]; exact HO5, HB5⟩, by simp [intOf]; omega⟩
                      · go_wp2_with fail
                        go_quiet (fail)
                        have HV7 : Hid (TlOwn (World.drewN wz nq) w3.heap.size (.slice a1 s1.length c1) (s1.map Prod.fst)) := own_later HV6.out (below_drewN (Below.refl _ _) _)
                        have HW7 : Hid (Below w3.heap.size w3 (World.drewN wz nq)) := below_drewN HW6.out _
                        have HC7 := hide (HCW.out _ HW7.out)
                        clear HV6 HW6 HC6 HX6 p0 p1 q0 q1
                        generalize World.drewN wz nq = w7 at *
                        obtain ⟨a5, c5, w5, hr5, ho5, hb5⟩ := tl_more HV7.out HW7.out.size y.1 HTY.out.ac (by rw [List.length_map]; omega)
                        rw [List.length_map] at hr5
                        have HR5 := hide hr5
                        have HO5 : Hid (TlOwn w5 w3.heap.size (.slice a5 (s1.length + 1) c5) ((s1 ++ [y]).map Prod.fst)) := by show TlOwn _ _ _ _; rw [List.map_append, List.length_map] at *; exact ho5
                        have HB5 : Hid (Below w3.heap.size w3 w5) := HW7.out.trans hb5
                        clear hr5 ho5 hb5
                        go_wp2_with fail
                        refine kept_load_intro _ _ (.agg (tlC y.1)) (by rfl) (run_loadT_at HC7.out HTY.out.ac) ?_
                        go_wp2_with fail
                        refine kept_exec (exec_bs1 _ _ _ (by rfl) (run_bsE HTY.out _)) ?_
                        go_wp2_with ((with_reducible refine wpl_append _ _ 48 _ (.slice (some ⟨w7.heap.size, 0, none⟩) 1 1) _ ?_ ?_ HR5.out ?_); (· rfl); (· rfl))
                        exact ⟨⟨k + 1, by omega, by go_num, by rw [HE4.out], by rw [HE4.out]; exact HO5, HB5⟩, by simp [intOf]; omega⟩
              · have HE2 : Hid (insRun x (o.take k) = insRun x o) := by show _ = _; rw [List.take_of_length_le (by omega)]
                obtain rfl : k = o.length := by omega
                have hkd : decide ((o.length : Int) < (o.length : Int)) = false := decide_eq_false (by omega)
                have hlen : (insRun x (o.take o.length)).1.length ≤ 800 := by
                  have := insRun_len x (o.take o.length)
                  rw [List.length_take] at this
                  omega
                obtain ⟨nx, hnx⟩ : ∃ nx, nx = (insRun x (o.take o.length)).1 := ⟨_, rfl⟩
                obtain ⟨pl, hpl⟩ : ∃ pl, pl = (insRun x (o.take o.length)).2 := ⟨_, rfl⟩
                have HI : Hid (insT x o = if pl then nx else nx ++ [x]) := by show _ = _; unfold insT; rw [hnx, hpl, HE2.out]
                rw [← hnx] at HV hlen ⊢
                rw [← hpl]
                clear hnx hpl HE2
                have hBw : w.heap.size ≤ w3.heap.size := HB3.out.size
                have HBr : Hid (Below w.heap.size w wr) := HB3.out.trans (HW.out.mono hBw)
                cases pl with
                | true =>
                  have HE3 : Hid (toldT (l.take (j + 1)) = nx) := by show _ = _; rw [HE.out, HI.out]; rfl
                  go_wp2_with fail
                  exact ⟨⟨j + 1, by omega, by go_num, by rw [HE3.out]; exact own_base HV.out hBw, HBr⟩, by simp [intOf]; omega⟩
                | false =>
                  have HE3 : Hid (toldT (l.take (j + 1)) = nx ++ [x]) := by show _ = _; rw [HE.out, HI.out]; rfl
                  have HXr := hide (HX3.out.below HW.out HX3.out.lt)
                  obtain ⟨a5, c5, w5, hr5, ho5, hb5⟩ := tl_more HV.out HW.out.size x.1 HTX.out.ac (by rw [List.length_map]; omega)
                  rw [List.length_map] at hr5
                  have HR5 := hide hr5
                  have HO5 : Hid (TlOwn w5 w3.heap.size (.slice a5 (nx.length + 1) c5) ((nx ++ [x]).map Prod.fst)) := by show TlOwn _ _ _ _; rw [List.map_append, List.length_map] at *; exact ho5
                  have HB5 : Hid (Below w.heap.size w w5) := HBr.out.trans (hb5.mono hBw)
                  clear hr5 ho5 hb5
                  go_wp2_with fail
                  refine kept_load_intro _ _ (.agg (tlC x.1)) (by rfl) (HXr.out.whole _ Tryd.underlying54 rfl (by rw [infoT, (tlC_ok HTX.out.ac).1])) ?_
                  go_wp2_with fail
                  refine kept_exec (exec_bs1 _ _ _ (by rfl) (run_bsE HTX.out _)) ?_
                  go_wp2_with ((with_reducible refine wpl_append _ _ 48 _ (.slice (some ⟨wr.heap.size, 0, none⟩) 1 1) _ ?_ ?_ HR5.out ?_); (· rfl); (· rfl))
                  exact ⟨⟨j + 1, by omega, by go_num, by rw [HE3.out]; exact own_base HO5.out hBw, HB5⟩, by simp [intOf]; omega⟩
      · have hnd : decide (((toldT (l.take j)).length : Int) < 400) = false := decide_eq_false (by omega)
        have HE := hide (toldT_stop l j h4)
        generalize toldT (l.take j) = o at *
        go_wp2_with fail
        go_ret
        exact ⟨_, rfl, by rw [← HE.out]; exact HO.out, HB.out⟩
    · obtain rfl : j = n := by omega
      have hjd : decide ((j : Int) < (j : Int)) = false := decide_eq_false (by omega)
      have HE : Hid (toldT (l.take j) = toldT l) := by show _ = _; rw [List.take_of_length_le (by rw [← HN.out]; omega)]
      generalize toldT (l.take j) = o at *
      go_wp2_with fail
      go_ret
      exact ⟨_, rfl, by rw [← HE.out]; exact HO.out, HB.out⟩
end
end Go.Proofs.YthigjonagbfbbaaDoor
