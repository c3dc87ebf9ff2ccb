/- Lists of routes of the call's own; the document's Drop. -/
import Derived.Test.YthigjonagbfbbaaDoorKBg
import Derived.Deep.QuietTactic
import Derived.BigQuiet
namespace Go.Proofs.YthigjonagbfbbaaDoor
open Go.RowKit
set_option maxRecDepth 100000

theorem Tryd.infoRoute : (Tryd.prog.info? 36).map (fun i => (i.zero, i.size, i.bytes)) = some (some (.agg zR), 11, 136) := by kernel_rfl
theorem elemRoute : Elem 52 36 11 136 := by
  obtain ⟨i, h1, h2, h3, h4⟩ := info_parts Tryd.infoRoute
  exact ⟨Tryd.underlying52, ⟨i, _, h1, h2, h3, h4, rfl⟩, by omega, by omega⟩
theorem run_one (pa : Option Addr) (pc : Nat) (ca : Option Addr) (cc : Nat) (ra : Option Addr) (rc : Nat) (r : Rt) (w : World) : (Instr.buildSlice 52 1 #[(0, .agg (rtC pa pc ca cc ra rc r))]).run Tryd.prog w = .ok (.slice (some ⟨w.heap.size, 0, none⟩) 1 1) (w.alloc (.cells (rtC pa pc ca cc ra rc r) 36)) := by kernel_rfl
section
variable {P : Program} {a : Act} {w w' : World} {K : Act → World → Prop} {Q : Exit → Act → World → Prop} {dst : Option Tmp} {ty : TypeId} {pos : String} {after : Array Edge} {gd : Option (Nat × Bool)}
theorem keptR_one (x : Operand) : Oper.wp P { dst := dst, op := .buildSlice 52 1 #[(0, x)], type := ty, pos := pos, after := after, guard := gd } a w K Q = Kept P { dst := dst, op := .buildSlice 52 1 #[(0, x)], type := ty, pos := pos, after := after, guard := gd } a w K Q := rfl
theorem keptR_one_intro (x : Operand) (p v : Value) (hx : a.eval x = p) (hr : (Instr.buildSlice 52 1 #[(0, p)]).run P w = .ok v w') (h : K (a.put dst v) w') : Kept P { dst := dst, op := .buildSlice 52 1 #[(0, x)], type := ty, pos := pos, after := after, guard := gd } a w K Q := by
  unfold Kept Oper.wp execOp
  have e : (#[(0, x)].map fun (i, x) => (i, a.eval x)) = #[(0, p)] := by simp [hx]
  simp only [e, Sem.run_bind, hr, Result.andThen_ok, Sem.run_pure]
  exact h
end
/-- v is a row of the routes l, its cells new since B; what they lead to was there in w0. -/
def OwnRts (w0 : World) (B : Nat) (w : World) (v : Value) (l : List Rt) : Prop :=
  ∃ cs, w.ownsRow B 36 11 v l.length cs ∧ ∀ i r, l[i]? = some r → ∃ pa pc ca cc ra rc, (∀ (j : Nat) x, (rtC pa pc ca cc ra rc r)[j]? = some x → cs[i * 11 + j]? = some x) ∧ AtRd w0 pa ca ra r.att
theorem OwnRts.nil (w0 : World) (B : Nat) (w : World) : OwnRts w0 B w (.slice none 0 0) [] := ⟨[], own_nil _ _ _ _, fun i s h => by simp at h⟩
theorem OwnRts.base {w0 w : World} {B B' : Nat} {v : Value} {l : List Rt} (h : OwnRts w0 B w v l) (hB : B' ≤ B) : OwnRts w0 B' w v l := by
  obtain ⟨cs, ho, hc⟩ := h
  exact ⟨cs, own_base ho hB, hc⟩
theorem OwnRts.later {w0 w w' : World} {B : Nat} {v : Value} {l : List Rt} (h : OwnRts w0 B w v l) (hb : Below w.heap.size w w') : OwnRts w0 B w' v l := by
  obtain ⟨cs, ho, hc⟩ := h
  exact ⟨cs, own_later ho hb, hc⟩
theorem rtC_size (pa : Option Addr) (pc : Nat) (ca : Option Addr) (cc : Nat) (ra : Option Addr) (rc : Nat) (r : Rt) : (rtC pa pc ca cc ra rc r).size = 11 := rfl
theorem OwnRts.rd {w0 w : World} {B : Nat} {v : Value} {l : List Rt} (h : OwnRts w0 B w v l) (hb : Below w0.heap.size w0 w) : ∃ a c, v = .slice a l.length c ∧ RtsRd w a l := by
  obtain ⟨cs, ho, hc⟩ := h
  have hh := ho
  rcases ho.2 with ⟨rfl, h0⟩ | ⟨g, cap, cur, rfl, _⟩
  · exact ⟨none, 0, by rw [h0], fun hp => absurd hp (by omega)⟩
  · refine ⟨_, _, rfl, fun _ => ⟨g, 0, rfl, fun i r hi => ?_⟩⟩
    have hil := (List.getElem?_eq_some_iff.1 hi).1
    obtain ⟨pa, pc, ca, cc, ra, rc, h1, h2⟩ := hc i r hi
    refine ⟨pa, pc, ca, cc, ra, rc, fun j x hx => ?_, h2.below hb⟩
    have hj : j < 11 := by have := (Array.getElem?_eq_some_iff.1 hx).1; rwa [rtC_size] at this
    rw [Nat.zero_add, hh.cellAt (i * 11 + j) (by omega)]
    exact h1 j x hx
/-- One route more. -/
theorem OwnRts.snoc {w0 w : World} {B : Nat} {v : Value} {l : List Rt} {r : Rt} {pa : Option Addr} {pc : Nat} {ca : Option Addr} {cc : Nat} {ra : Option Addr} {rc : Nat} (h : OwnRts w0 B w v l) (hB : B ≤ w.heap.size) (hr : AtRd w0 pa ca ra r.att) (hl : l.length ≤ 500000) :
    ∃ a' c' w', (Builtin.append_ #[52, 52] 52 #[v, .slice (some ⟨w.heap.size, 0, none⟩) 1 1]).run Tryd.prog (w.alloc (.cells (rtC pa pc ca cc ra rc r) 36)) = .ok (.slice a' (l.length + 1) c') w' ∧ OwnRts w0 B w' (.slice a' (l.length + 1) c') (l ++ [r]) ∧ Below B w w' ∧ ∀ X C, Bl w X C → v.ownBlock ≠ some X → Bl w' X C := by
  obtain ⟨cs, ho, hc⟩ := h
  have hbw : Below w.heap.size w (w.alloc (.cells (rtC pa pc ca cc ra rc r) 36)) := (Below.refl _ _).alloc (Nat.le_refl _) _
  obtain ⟨v', w', hrun, h2, h3, h4, _⟩ := app_more elemRoute (w := w.alloc (.cells (rtC pa pc ca cc ra rc r) 36)) (ho.alloc _) (by simp; omega) ⟨w.heap.size, 0, none⟩ 1 1 (rtC pa pc ca cc ra rc r).toList rfl (fun j u hu => by
    rw [Addr.add_mid, Nat.zero_add, World.cell?_alloc_mark]
    simpa using hu) (fun u hu => by
    have := (RC.rt pa pc ca cc ra rc r).2
    rw [Array.all_eq_true'] at this
    exact this u (by simpa using hu)) (by omega)
  obtain ⟨a', c', rfl⟩ := own_shape h2
  refine ⟨a', c', w', hrun, ⟨_, by rw [List.length_append]; exact h2, fun i s hi => ?_⟩, ((Below.refl _ _).alloc hB _).trans h3, fun X C hX hne => ?_⟩
  · have hcl : cs.length = l.length * 11 := ho.1
    by_cases hlt : i < l.length
    · rw [List.getElem?_append_left hlt] at hi
      obtain ⟨qa, qb, qc, qd, qe, qf, g1, g2⟩ := hc i s hi
      refine ⟨qa, qb, qc, qd, qe, qf, fun j x hx => ?_, g2⟩
      have hj : j < 11 := by have := (Array.getElem?_eq_some_iff.1 hx).1; rwa [rtC_size] at this
      rw [List.getElem?_append_left (by omega)]
      exact g1 j x hx
    · rw [List.getElem?_append_right (by omega)] at hi
      have hi0 : i - l.length = 0 := by
        have := (List.getElem?_eq_some_iff.1 hi).1
        simpa using this
      rw [hi0] at hi
      simp at hi
      subst hi
      refine ⟨pa, pc, ca, cc, ra, rc, fun j x hx => ?_, hr⟩
      rw [List.getElem?_append_right (by omega), show i * 11 + j - cs.length = j from by omega, Array.getElem?_toList]
      exact hx
  · have h9 := hX.below hbw
    unfold Bl
    rw [h4.block X h9.lt (fun e => hne e.symm)]
    exact h9
theorem OwnRts.block {w0 w : World} {B : Nat} {v : Value} {l : List Rt} (h : OwnRts w0 B w v l) (X : Nat) (hX : w.heap.size ≤ X ∨ X < B) : v.ownBlock ≠ some X := fun e => by
  obtain ⟨cs, ho, _⟩ := h
  have := own_block ho X e
  omega
/-- Has it to go? -/
def gone (A : Nat) (L peer : Int) (r : Rt) : Bool := decide (r.A = A) && decide (r.L = L) && decide (r.peer = peer)
def dropL (A : Nat) (L peer : Int) (l : List Rt) : List Rt := l.filter fun r => !(gone A L peer r)
theorem dropL_snoc (A : Nat) (L peer : Int) (l : List Rt) (r : Rt) : dropL A L peer (l ++ [r]) = if gone A L peer r then dropL A L peer l else dropL A L peer l ++ [r] := by
  unfold dropL
  rw [List.filter_append]
  cases h : gone A L peer r <;> simp [h]
theorem dropL_length (A : Nat) (L peer : Int) (l : List Rt) : (dropL A L peer l).length ≤ l.length := List.length_filter_le _ _
section
attribute [local go_sem ↓] keptR_load keptR_one kept_app
set_option maxHeartbeats 6400000 in
theorem rdrop_some (b off n c : Nat) (A : Nat) (L peer : Int) (l : List Rt) (w : World) (hl : l.length = n) (hn : n ≤ 100000) (h : ∀ i r, l[i]? = some r → ∃ pa pc ca cc ra rc, RtAt w b (off + i * 11) r pa pc ca cc ra rc) :
    Calls Tryd.prog 18 #[.slice (some ⟨b, off, none⟩) n c, .int .i64 peer, .agg #[.int .u32 (A : Int), .int .i64 L]] w fun e w' => (∃ v, e = .returned v ∧ OwnRts w w.heap.size w' v (dropL A L peer l)) ∧ Below w.heap.size w w' := by
  have HL := hide hl
  have HH := hide h
  have HB1 : Hid (Below w.heap.size w (w.alloc (.cells #[.int .u32 (A : Int), .int .i64 L] 29))) := (Below.refl _ _).alloc (Nat.le_refl _) _
  have HQ1 : Hid ((w.alloc (.cells #[.int .u32 (A : Int), .int .i64 L] 29)).cell? ⟨w.heap.size, 0, none⟩ = some (.int .u32 (A : Int)) ∧ (w.alloc (.cells #[.int .u32 (A : Int), .int .i64 L] 29)).cell? ⟨w.heap.size, 1, none⟩ = some (.int .i64 L)) := ⟨by simp [go_sem], by simp [go_sem]⟩
  have hz1 : w.heap.size < (w.alloc (.cells #[.int .u32 (A : Int), .int .i64 L] 29)).heap.size := by simp
  clear hl h
  go_enter Tryd.func18, Tryd.ntmps18
  go_wp2
  generalize w.alloc (.cells #[.int .u32 (A : Int), .int .i64 L] 29) = w1 at *
  go_loopw [7, 8] (fun v i wq => ∃ (k : Nat) (a9 : Option Addr) (c9 : Nat), k ≤ n ∧ i = .int .i64 k ∧ v = .slice a9 (dropL A L peer (l.take k)).length c9 ∧ Hid (OwnRts w w1.heap.size wq (.slice a9 (dropL A L peer (l.take k)).length c9) (dropL A L peer (l.take k))) ∧ Hid (Below w1.heap.size w1 wq)) (fun _ i _ => n - (intOf i).toNat)
  case atStart => exact ⟨0, none, 0, Nat.zero_le _, rfl, rfl, OwnRts.nil _ _ _, Below.refl _ _⟩
  case round =>
    obtain ⟨k, a9, c9, hk, rfl, rfl, HO, HB⟩ := hrel
    by_cases hlt : k < n
    · have hkp : k < l.length := by rw [HL.out]; exact hlt
      obtain ⟨pa, pc, ca, cc, ra, rc, r1⟩ := HH.out k _ (List.getElem?_eq_getElem hkp)
      have HA : Hid (AtRd w pa ca ra (l[k]).att) := r1.2
      have R1 := hide ((r1.below HB1.out).below HB.out)
      have HT : Hid (dropL A L peer (l.take (k + 1)) = if gone A L peer l[k] then dropL A L peer (l.take k) else dropL A L peer (l.take k) ++ [l[k]]) := by show dropL _ _ _ _ = _; rw [List.take_succ_eq_append_getElem hkp, dropL_snoc]
      have HLE : Hid ((dropL A L peer (l.take k)).length ≤ 100000) := by show List.length _ ≤ _; have := dropL_length A L peer (l.take k); have := List.length_take_le k l; omega
      generalize l[k] = x at *
      clear r1
      have q0 : wr.cell? ⟨w.heap.size, 0, none⟩ = some (.int .u32 (A : Int)) := by rw [HB.out.cell (p := ⟨w.heap.size, 0, none⟩) hz1]; exact HQ1.out.1
      have q1 : wr.cell? ⟨w.heap.size, 1, none⟩ = some (.int .i64 L) := by rw [HB.out.cell (p := ⟨w.heap.size, 1, none⟩) hz1]; exact HQ1.out.2
      have hzr : w.heap.size < wr.heap.size := Nat.lt_of_lt_of_le hz1 HB.out.size
      have c0 : wr.cell? ⟨b, off + k * 11, none⟩ = some (.int .u32 (x.A : Int)) := R1.out.1 0 _ rfl
      have c1 : wr.cell? ⟨b, off + k * 11 + 1, none⟩ = some (.int .i64 x.L) := R1.out.1 1 _ rfl
      have c2 : wr.cell? ⟨b, off + k * 11 + 2, none⟩ = some (.int .i64 x.peer) := R1.out.1 2 _ rfl
      have zb := World.block_lt_of_cell? wr _ c0
      simp only at zb
      have hk0 : (0 : Int) ≤ (k : Int) := Int.natCast_nonneg _
      have hkn : (k : Int) < (n : Int) := by omega
      by_cases eA : x.A = A
      · by_cases eL : x.L = L
        · by_cases eP : x.peer = peer
          · have HG : Hid (gone A L peer x = true) := by show gone _ _ _ _ = _; unfold gone; rw [decide_eq_true eA, decide_eq_true eL, decide_eq_true eP]; rfl
            rw [eA] at c0
            rw [eL] at c1
            rw [eP] at c2
            go_wp2_with fail
            go_quiet (fail)
            have HBd : Hid (Below w1.heap.size w1 (wr.drewN nq)) := below_drewN HB.out nq
            have HOd : Hid (OwnRts w w1.heap.size (wr.drewN nq) (.slice a9 (dropL A L peer (l.take (k + 1))).length c9) (dropL A L peer (l.take (k + 1)))) := by
              show OwnRts _ _ _ _ _
              have e9 : dropL A L peer (l.take (k + 1)) = dropL A L peer (l.take k) := by rw [HT.out, HG.out]; rfl
              rw [e9]
              exact HO.out.later (below_drewN (Below.refl _ wr) nq)
            have HLN : Hid ((dropL A L peer (l.take (k + 1))).length = (dropL A L peer (l.take k)).length) := by
              show List.length _ = _
              rw [HT.out, HG.out]
              rfl
            clear HT HG HO HB R1 q0 q1 hzr c0 c1 c2 zb HLE
            generalize wr.drewN nq = wd at *
            go_wp2
            exact ⟨⟨k + 1, a9, c9, by omega, by go_num, by rw [HLN.out], HOd, HBd⟩, by simp [intOf]; omega⟩
          · have HG : Hid (gone A L peer x = false) := by show gone _ _ _ _ = _; unfold gone; rw [decide_eq_false eP, Bool.and_false]
            rw [eA] at c0
            rw [eL] at c1
            have f1 : (x.peer != peer) = true := by simpa using eP
            have f2 : (x.peer == peer) = false := by simpa using eP
            go_wp2_with fail
            go_quiet (fail)
            have HBd : Hid (Below w1.heap.size w1 (wr.drewN nq)) := below_drewN HB.out nq
            have HOd := hide (HO.out.later (below_drewN (Below.refl _ wr) nq))
            have Rd := hide (R1.out.below (below_drewN (Below.refl _ wr) nq))
            generalize wr.drewN nq = wd at *
            clear HB HO R1 q0 q1 hzr c0 c1 c2 zb
            have zd := World.block_lt_of_cell? wd _ (Rd.out.1 0 _ rfl)
            simp only at zd
            obtain ⟨a8, c8, w8, hr8, ho8, hb8, _⟩ := HOd.out.snoc (pc := pc) (cc := cc) (rc := rc) (r := x) HBd.out.size HA.out (by have := HLE.out; omega)
            have HR8 := hide hr8
            have HO8 : Hid (OwnRts w w1.heap.size w8 (.slice a8 (dropL A L peer (l.take (k + 1))).length c8) (dropL A L peer (l.take (k + 1)))) := by
              show OwnRts _ _ _ _ _
              have e9 : dropL A L peer (l.take (k + 1)) = dropL A L peer (l.take k) ++ [x] := by rw [HT.out, HG.out]; rfl
              rw [e9, List.length_append]
              exact ho8
            have HLN : Hid ((dropL A L peer (l.take (k + 1))).length = (dropL A L peer (l.take k)).length + 1) := by
              show List.length _ = _
              rw [HT.out, HG.out]
              simp
            have HB8 : Hid (Below w1.heap.size w1 w8) := HBd.out.trans hb8
            clear hr8 ho8 hb8 HT HG HOd HBd HLE
            generalize (dropL A L peer (l.take k)).length = nd at *
            go_wp2_with fail
            refine kept_load_intro _ _ _ (by rfl) (run_loadR_at Rd.out) ?_
            clear Rd zd
            go_wp2_with fail
            refine keptR_one_intro _ _ _ (by rfl) (run_one _ _ _ _ _ _ _ _) ?_
            go_wp2_with fail
            refine kept_app_intro _ _ _ _ _ _ (w' := w8) (by rfl) (by rfl) (by exact HR8.out) ?_
            clear HR8
            go_wp2
            exact ⟨⟨k + 1, a8, c8, by omega, by go_num, by rw [HLN.out], HO8, HB8⟩, by simp [intOf]; omega⟩
        · have HG : Hid (gone A L peer x = false) := by show gone _ _ _ _ = _; unfold gone; rw [decide_eq_false eL, Bool.and_false]; rfl
          rw [eA] at c0
          have f1 : (x.L == L) = false := by simpa using eL
          have f2 : (x.L != L) = true := by simpa using eL
          go_wp2_with fail
          go_quiet (fail)
          have HBd : Hid (Below w1.heap.size w1 (wr.drewN nq)) := below_drewN HB.out nq
          have HOd := hide (HO.out.later (below_drewN (Below.refl _ wr) nq))
          have Rd := hide (R1.out.below (below_drewN (Below.refl _ wr) nq))
          generalize wr.drewN nq = wd at *
          clear HB HO R1 q0 q1 hzr c0 c1 c2 zb
          have zd := World.block_lt_of_cell? wd _ (Rd.out.1 0 _ rfl)
          simp only at zd
          obtain ⟨a8, c8, w8, hr8, ho8, hb8, _⟩ := HOd.out.snoc (pc := pc) (cc := cc) (rc := rc) (r := x) HBd.out.size HA.out (by have := HLE.out; omega)
          have HR8 := hide hr8
          have HO8 : Hid (OwnRts w w1.heap.size w8 (.slice a8 (dropL A L peer (l.take (k + 1))).length c8) (dropL A L peer (l.take (k + 1)))) := by
            show OwnRts _ _ _ _ _
            have e9 : dropL A L peer (l.take (k + 1)) = dropL A L peer (l.take k) ++ [x] := by rw [HT.out, HG.out]; rfl
            rw [e9, List.length_append]
            exact ho8
          have HLN : Hid ((dropL A L peer (l.take (k + 1))).length = (dropL A L peer (l.take k)).length + 1) := by
            show List.length _ = _
            rw [HT.out, HG.out]
            simp
          have HB8 : Hid (Below w1.heap.size w1 w8) := HBd.out.trans hb8
          clear hr8 ho8 hb8 HT HG HOd HBd HLE
          generalize (dropL A L peer (l.take k)).length = nd at *
          go_wp2_with fail
          refine kept_load_intro _ _ _ (by rfl) (run_loadR_at Rd.out) ?_
          clear Rd zd
          go_wp2_with fail
          refine keptR_one_intro _ _ _ (by rfl) (run_one _ _ _ _ _ _ _ _) ?_
          go_wp2_with fail
          refine kept_app_intro _ _ _ _ _ _ (w' := w8) (by rfl) (by rfl) (by exact HR8.out) ?_
          clear HR8
          go_wp2
          exact ⟨⟨k + 1, a8, c8, by omega, by go_num, by rw [HLN.out], HO8, HB8⟩, by simp [intOf]; omega⟩
      · have HG : Hid (gone A L peer x = false) := by show gone _ _ _ _ = _; unfold gone; rw [decide_eq_false eA]; rfl
        have f1 : (x.A == A) = false := by simpa using eA
        have f2 : ((x.A : Int) == (A : Int)) = false := by simp; omega
        have f3 : ((x.A : Int) != (A : Int)) = true := by simp; omega
        go_wp2_with fail
        go_quiet (fail)
        have HBd : Hid (Below w1.heap.size w1 (wr.drewN nq)) := below_drewN HB.out nq
        have HOd := hide (HO.out.later (below_drewN (Below.refl _ wr) nq))
        have Rd := hide (R1.out.below (below_drewN (Below.refl _ wr) nq))
        generalize wr.drewN nq = wd at *
        clear HB HO R1 q0 q1 hzr c0 c1 c2 zb
        have zd := World.block_lt_of_cell? wd _ (Rd.out.1 0 _ rfl)
        simp only at zd
        obtain ⟨a8, c8, w8, hr8, ho8, hb8, _⟩ := HOd.out.snoc (pc := pc) (cc := cc) (rc := rc) (r := x) HBd.out.size HA.out (by have := HLE.out; omega)
        have HR8 := hide hr8
        have HO8 : Hid (OwnRts w w1.heap.size w8 (.slice a8 (dropL A L peer (l.take (k + 1))).length c8) (dropL A L peer (l.take (k + 1)))) := by
          show OwnRts _ _ _ _ _
          have e9 : dropL A L peer (l.take (k + 1)) = dropL A L peer (l.take k) ++ [x] := by rw [HT.out, HG.out]; rfl
          rw [e9, List.length_append]
          exact ho8
        have HLN : Hid ((dropL A L peer (l.take (k + 1))).length = (dropL A L peer (l.take k)).length + 1) := by
          show List.length _ = _
          rw [HT.out, HG.out]
          simp
        have HB8 : Hid (Below w1.heap.size w1 w8) := HBd.out.trans hb8
        clear hr8 ho8 hb8 HT HG HOd HBd HLE
        generalize (dropL A L peer (l.take k)).length = nd at *
        go_wp2_with fail
        refine kept_load_intro _ _ _ (by rfl) (run_loadR_at Rd.out) ?_
        clear Rd zd
        go_wp2_with fail
        refine keptR_one_intro _ _ _ (by rfl) (run_one _ _ _ _ _ _ _ _) ?_
        go_wp2_with fail
        refine kept_app_intro _ _ _ _ _ _ (w' := w8) (by rfl) (by rfl) (by exact HR8.out) ?_
        clear HR8
        go_wp2
        exact ⟨⟨k + 1, a8, c8, by omega, by go_num, by rw [HLN.out], HO8, HB8⟩, by simp [intOf]; omega⟩
    · have HE : Hid (l.take k = l) := List.take_of_length_le (by rw [HL.out]; omega)
      rw [HE.out] at HO ⊢
      have HF := hide (HO.out.base (B' := w.heap.size) (by omega))
      have HBF := hide (HB1.out.trans (HB.out.mono (by omega)))
      go_wp2
      go_ret
      exact ⟨⟨_, rfl, HF.out⟩, HBF.out⟩
end
set_option maxHeartbeats 800000 in
theorem rdrop_none (a : Option Addr) (c : Nat) (A : Nat) (L peer : Int) (w : World) :
    Calls Tryd.prog 18 #[.slice a 0 c, .int .i64 peer, .agg #[.int .u32 (A : Int), .int .i64 L]] w fun e w' => (∃ v, e = .returned v ∧ OwnRts w w.heap.size w' v []) ∧ Below w.heap.size w w' := by
  go_enter Tryd.func18, Tryd.ntmps18
  go_wp2
  go_loop [7, 8] (fun v i => v = .slice none 0 0 ∧ i = .int .i64 0) (fun _ i => 0 - (intOf i).toNat)
  case atStart => exact ⟨rfl, rfl⟩
  case round =>
    obtain ⟨rfl, rfl⟩ := hrel
    go_wp2
    go_ret
    exact ⟨⟨_, rfl, OwnRts.nil _ _ _⟩, (Below.refl _ _).alloc (Nat.le_refl _) _⟩
/-- The document's Drop of any list of routes. -/
theorem rdrop_any (a : Option Addr) (c : Nat) (A : Nat) (L peer : Int) (l : List Rt) (w : World) (hn : l.length ≤ 100000) (h : RtsRd w a l) :
    Calls Tryd.prog 18 #[.slice a l.length c, .int .i64 peer, .agg #[.int .u32 (A : Int), .int .i64 L]] w fun e w' => (∃ v, e = .returned v ∧ OwnRts w w.heap.size w' v (dropL A L peer l)) ∧ Below w.heap.size w w' := by
  cases l with
  | nil => exact rdrop_none a c A L peer w
  | cons r l =>
    obtain ⟨b, off, rfl, hc⟩ := h (by simp)
    exact rdrop_some b off _ c A L peer _ w rfl hn hc
end Go.Proofs.YthigjonagbfbbaaDoor
