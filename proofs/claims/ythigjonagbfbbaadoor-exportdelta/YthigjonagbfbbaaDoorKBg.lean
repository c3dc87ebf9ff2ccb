/- The document's SameRoute; the program's Same. -/
import Derived.Test.YthigjonagbfbbaaDoorKAi
import Derived.Test.YthigjonagbfbbaaDoorAtSy
import Derived.Test.YthigjonagbfbbaaDoorKAk
import Derived.Test.YthigjonagbfbbaaDoorMix
namespace Go.Proofs.YthigjonagbfbbaaDoor
open Go.RowKit
set_option maxRecDepth 100000

set_option maxHeartbeats 3200000 in
theorem samer_at (A1 A2 : Nat) (L1 L2 p1 p2 : Int) (o1 : Int) (pa1 : Option Addr) (pn1 pc1 nx1 : Nat) (md1 pf1 : Int) (ca1 : Option Addr) (cn1 cc1 : Nat) (ra1 : Option Addr) (rn1 rc1 : Nat) (o2 : Int) (pa2 : Option Addr) (pn2 pc2 nx2 : Nat) (md2 pf2 : Int) (ca2 : Option Addr) (cn2 cc2 : Nat) (ra2 : Option Addr) (rn2 rc2 : Nat) (s1 s2 : Int) (d : Bool) (w : World)
    (K : ∀ w1, Below w.heap.size w w1 → Calls Tryd.prog 12 #[.agg #[.int .i64 o1, .slice pa1 pn1 pc1, .int .u32 (nx1 : Int), .int .i64 md1, .int .i64 pf1, .slice ca1 cn1 cc1, .slice ra1 rn1 rc1], .agg #[.int .i64 o2, .slice pa2 pn2 pc2, .int .u32 (nx2 : Int), .int .i64 md2, .int .i64 pf2, .slice ca2 cn2 cc2, .slice ra2 rn2 rc2]] w1 fun e w' => e = .returned (.bool d) ∧ Below w1.heap.size w1 w') :
    Calls Tryd.prog 39 #[.agg #[.int .u32 (A1 : Int), .int .i64 L1, .int .i64 p1, .int .i64 o1, .slice pa1 pn1 pc1, .int .u32 (nx1 : Int), .int .i64 md1, .int .i64 pf1, .slice ca1 cn1 cc1, .slice ra1 rn1 rc1, .int .i64 s1], .agg #[.int .u32 (A2 : Int), .int .i64 L2, .int .i64 p2, .int .i64 o2, .slice pa2 pn2 pc2, .int .u32 (nx2 : Int), .int .i64 md2, .int .i64 pf2, .slice ca2 cn2 cc2, .slice ra2 rn2 rc2, .int .i64 s2]] w fun e w' => e = .returned (.bool (decide (A1 = A2) && decide (L1 = L2) && decide (p1 = p2) && decide (s1 = s2) && d)) ∧ Below w.heap.size w w' := by
  have hbb : ∀ p q, Below w.heap.size w ((w.alloc p).alloc q) := fun p q => ((Below.refl _ _).alloc (Nat.le_refl _) _).alloc (by simp) _
  have HK := hide K
  clear K
  by_cases eA : A1 = A2
  · subst eA
    by_cases eL : L1 = L2
    · subst eL
      by_cases eP : p1 = p2
      · subst eP
        by_cases eS : s1 = s2
        · subst eS
          have HD : Hid ((decide (A1 = A1) && decide (L1 = L1) && decide (p1 = p1) && decide (s1 = s1) && d) = d) := by show (_ : Bool) = _; simp
          rw [HD.out]
          clear HD
          go_enter Tryd.func39, Tryd.ntmps39
          go_wp2_with fail
          refine (HK.out _ (hbb _ _)).mono ?_
          rintro e w1 ⟨rfl, hb⟩
          have HB : Hid (Below w.heap.size w w1) := (hbb _ _).trans (hb.mono (by simp <;> omega))
          clear hb
          go_wp2
          go_ret
          exact ⟨rfl, HB.out⟩
        · have HD : Hid ((decide (A1 = A1) && decide (L1 = L1) && decide (p1 = p1) && decide (s1 = s2) && d) = false) := by show (_ : Bool) = _; simp [eS]
          rw [HD.out]
          have f : (s1 == s2) = false := by simpa using eS
          clear HD HK
          go_enter Tryd.func39, Tryd.ntmps39
          go_wp2
          go_ret
          exact ⟨rfl, hbb _ _⟩
      · have HD : Hid ((decide (A1 = A1) && decide (L1 = L1) && decide (p1 = p2) && decide (s1 = s2) && d) = false) := by show (_ : Bool) = _; simp [eP]
        rw [HD.out]
        have f : (p1 == p2) = false := by simpa using eP
        clear HD HK
        go_enter Tryd.func39, Tryd.ntmps39
        go_wp2
        go_ret
        exact ⟨rfl, hbb _ _⟩
    · have HD : Hid ((decide (A1 = A1) && decide (L1 = L2) && decide (p1 = p2) && decide (s1 = s2) && d) = false) := by show (_ : Bool) = _; simp [eL]
      rw [HD.out]
      have f : (L1 == L2) = false := by simpa using eL
      clear HD HK
      go_enter Tryd.func39, Tryd.ntmps39
      go_wp2
      go_ret
      exact ⟨rfl, hbb _ _⟩
  · have HD : Hid ((decide (A1 = A2) && decide (L1 = L2) && decide (p1 = p2) && decide (s1 = s2) && d) = false) := by show (_ : Bool) = _; simp [eA]
    rw [HD.out]
    have f : (A1 == A2) = false := by simpa using eA
    have f2 : ((A1 : Int) == (A2 : Int)) = false := by simp; omega
    clear HD HK
    go_enter Tryd.func39, Tryd.ntmps39
    go_wp2
    go_ret
    exact ⟨rfl, hbb _ _⟩
theorem samer_any (pa1 : Option Addr) (pc1 : Nat) (ca1 : Option Addr) (cc1 : Nat) (ra1 : Option Addr) (rc1 : Nat) (pa2 : Option Addr) (pc2 : Nat) (ca2 : Option Addr) (cc2 : Nat) (ra2 : Option Addr) (rc2 : Nat) (a b : Rt) (w : World) (hl : sizeA a.att ≤ 100000) (hl2 : sizeA b.att ≤ 100000) (h1 : AtRd w pa1 ca1 ra1 a.att) (h2 : AtRd w pa2 ca2 ra2 b.att) :
    Calls Tryd.prog 39 #[rtV pa1 pc1 ca1 cc1 ra1 rc1 a, rtV pa2 pc2 ca2 cc2 ra2 rc2 b] w fun e w' => e = .returned (.bool (eqRt a b)) ∧ Below w.heap.size w w' :=
  samer_at a.A b.A a.L b.L a.peer b.peer a.att.origin pa1 _ pc1 a.att.next a.att.med a.att.pref ca1 _ cc1 ra1 _ rc1 b.att.origin pa2 _ pc2 b.att.next b.att.med b.att.pref ca2 _ cc2 ra2 _ rc2 a.stale b.stale (eqA a.att b.att) w
    (fun w1 hb => samea_any pa1 pa2 pc1 pc2 ca1 ca2 cc1 cc2 ra1 ra2 rc1 rc2 a.att b.att w1 hl hl2 (h1.below hb) (h2.below hb))
end Go.Proofs.YthigjonagbfbbaaDoor
/- Lists of routes that are read; the document's SameRoutes. -/
namespace Go.Proofs.YthigjonagbfbbaaDoor
open Go.RowKit
set_option maxRecDepth 100000

/-- A route that is read at a place of a block: its cells, and what they lead to. -/
def RtAt (w : World) (g o : Nat) (r : Rt) (pa : Option Addr) (pc : Nat) (ca : Option Addr) (cc : Nat) (ra : Option Addr) (rc : Nat) : Prop :=
  (∀ j v, (rtC pa pc ca cc ra rc r)[j]? = some v → w.cell? ⟨g, o + j, none⟩ = some v) ∧ AtRd w pa ca ra r.att
theorem RtAt.below {w w' : World} {g o : Nat} {r : Rt} {pa : Option Addr} {pc : Nat} {ca : Option Addr} {cc : Nat} {ra : Option Addr} {rc : Nat} (h : RtAt w g o r pa pc ca cc ra rc) (hb : Below w.heap.size w w') : RtAt w' g o r pa pc ca cc ra rc :=
  ⟨fun j v hv => by
    have h1 := h.1 j v hv
    rw [hb.cell (p := ⟨g, o + j, none⟩) (World.block_lt_of_cell? w _ h1)]
    exact h1, h.2.below hb⟩
/-- The slice's elements are the routes l. -/
def RtsRd (w : World) (a : Option Addr) (l : List Rt) : Prop := 0 < l.length → ∃ b off, a = some ⟨b, off, none⟩ ∧ ∀ i r, l[i]? = some r → ∃ pa pc ca cc ra rc, RtAt w b (off + i * 11) r pa pc ca cc ra rc
theorem RtsRd.below {w w' : World} {a : Option Addr} {l : List Rt} (h : RtsRd w a l) (hb : Below w.heap.size w w') : RtsRd w' a l := fun hp => by
  obtain ⟨b, off, e, hc⟩ := h hp
  refine ⟨b, off, e, fun i r hi => ?_⟩
  obtain ⟨pa, pc, ca, cc, ra, rc, h1⟩ := hc i r hi
  exact ⟨pa, pc, ca, cc, ra, rc, h1.below hb⟩
theorem run_loadR_at {w : World} {g o : Nat} {r : Rt} {pa : Option Addr} {pc : Nat} {ca : Option Addr} {cc : Nat} {ra : Option Addr} {rc : Nat} (h : RtAt w g o r pa pc ca cc ra rc) : (Instr.loadAt 36 (.pointer (some ⟨g, o, none⟩))).run Tryd.prog w = .ok (.agg (rtC pa pc ca cc ra rc r)) w := by
  have := run_loadAt_mid (P := Tryd.prog) w g o 36 (rtC pa pc ca cc ra rc r).toList _ (fun j v hv => h.1 j v (by rw [← Array.getElem?_toList]; exact hv)) Tryd.underlying36 rfl (by rw [infoR]; rfl)
  simpa using this
section
variable {ρ : Operand → Value} {dst : Option Tmp} {ty : TypeId} {pos : String} {after : Array Edge} {gd : Option (Nat × Bool)}
theorem exec_loadR_at {w : World} {g o : Nat} {x : Operand} {r : Rt} {pa : Option Addr} {pc : Nat} {ca : Option Addr} {cc : Nat} {ra : Option Addr} {rc : Nat} (hx : ρ x = .pointer (some ⟨g, o, none⟩)) (h : RtAt w g o r pa pc ca cc ra rc) :
    (execOp ρ { dst := dst, op := .load 36 x, type := ty, pos := pos, after := after, guard := gd }).run Tryd.prog w = .ok (.value (.agg (rtC pa pc ca cc ra rc r))) w := by
  have hr := run_loadR_at h
  unfold execOp
  simp only [hx, Sem.run_bind, hr, Result.andThen_ok, Sem.run_pure]
end
/-- The same lists? -/
def eqRts : List Rt → List Rt → Bool
  | [], [] => true
  | a :: l, b :: m => eqRt a b && eqRts l m
  | _, _ => false
theorem eqRts_length : ∀ (l m : List Rt), eqRts l m = true → l.length = m.length
  | [], [], _ => rfl
  | _ :: l, _ :: m, h => by
    simp only [eqRts, Bool.and_eq_true] at h
    simp [eqRts_length l m h.2]
  | [], _ :: _, h => by cases h
  | _ :: _, [], h => by cases h
theorem eqRts_at : ∀ (l m : List Rt) (k : Nat) (a b : Rt), l[k]? = some a → m[k]? = some b → eqRt a b = false → eqRts l m = false
  | [], _, _, _, _, h, _, _ => by simp at h
  | _ :: _, [], _, _, _, _, h, _ => by simp at h
  | x :: l, y :: m, 0, a, b, h1, h2, h3 => by
    simp at h1 h2
    subst h1 h2
    simp [eqRts, h3]
  | x :: l, y :: m, k + 1, a, b, h1, h2, h3 => by
    simp at h1 h2
    simp [eqRts, eqRts_at l m k a b h1 h2 h3]
theorem eqRts_all : ∀ (l m : List Rt), l.length = m.length → (∀ (k : Nat) a b, l[k]? = some a → m[k]? = some b → eqRt a b = true) → eqRts l m = true
  | [], [], _, _ => rfl
  | x :: l, y :: m, h, hh => by
    simp only [eqRts, Bool.and_eq_true]
    exact ⟨hh 0 x y rfl rfl, eqRts_all l m (by simpa using h) (fun k a b h1 h2 => hh (k + 1) a b (by simpa using h1) (by simpa using h2))⟩
  | [], _ :: _, h, _ => by simp at h
  | _ :: _, [], h, _ => by simp at h
/-- None too great to be played. -/
def smallRs (l : List Rt) : Prop := ∀ r ∈ l, sizeA r.att ≤ 100000
set_option maxHeartbeats 400000 in
theorem samers_len (a1 a2 : Option Addr) (n1 n2 c1 c2 : Nat) (w : World) (h : n1 ≠ n2) : Calls Tryd.prog 20 #[.slice a1 n1 c1, .slice a2 n2 c2] w fun e w' => e = .returned (.bool false) ∧ Below w.heap.size w w' := by
  have h1 : ((n1 : Int) != (n2 : Int)) = true := by simp; omega
  have h2 : (n1 != n2) = true := by simpa using h
  go_enter Tryd.func20, Tryd.ntmps20
  go_wp2
  go_ret
  exact ⟨rfl, Below.refl _ _⟩
set_option maxHeartbeats 3200000 in
theorem samers_some (a1 a2 : Option Addr) (n c1 c2 : Nat) (l m : List Rt) (w : World) (hl : l.length = n) (hm : m.length = n) (hn : n ≤ 100000) (h1 : RtsRd w a1 l) (h2 : RtsRd w a2 m) (s1 : smallRs l) (s2 : smallRs m) :
    Calls Tryd.prog 20 #[.slice a1 n c1, .slice a2 n c2] w fun e w' => e = .returned (.bool (eqRts l m)) ∧ Below w.heap.size w w' := by
  have HL := hide hl
  have HM := hide hm
  have H1 := hide h1
  have H2 := hide h2
  clear hl hm h1 h2
  go_enter Tryd.func20, Tryd.ntmps20
  go_wp2
  go_loopw [5] (fun i wq => ∃ k : Nat, k ≤ n ∧ i = .int .i64 k ∧ Hid (Below w.heap.size w wq) ∧ Hid (∀ j a b, j < k → l[j]? = some a → m[j]? = some b → eqRt a b = true)) (fun i _ => n - (intOf i).toNat)
  case atStart => exact ⟨0, Nat.zero_le _, rfl, Below.refl _ _, fun j a b h => absurd h (by omega)⟩
  case round =>
    obtain ⟨k, hk, rfl, HB, HE⟩ := hrel
    by_cases hlt : k < n
    · have hk1 : k < l.length := by rw [HL.out]; exact hlt
      have hk2 : k < m.length := by rw [HM.out]; exact hlt
      obtain ⟨b1, o1, rfl, hc1⟩ := H1.out (by omega)
      obtain ⟨b2, o2, rfl, hc2⟩ := H2.out (by omega)
      obtain ⟨pa, pc, ca, cc, ra, rc, r1⟩ := hc1 k _ (List.getElem?_eq_getElem hk1)
      obtain ⟨pa2, pc2, ca2, cc2, ra2, rc2, r2⟩ := hc2 k _ (List.getElem?_eq_getElem hk2)
      have R1 := hide (r1.below HB.out)
      have R2 := hide (r2.below HB.out)
      have hq1 := s1 _ (List.getElem_mem hk1)
      have hq2 := s2 _ (List.getElem_mem hk2)
      have HNO : Hid (eqRt l[k] m[k] = false → eqRts l m = false) := eqRts_at l m k _ _ (List.getElem?_eq_getElem hk1) (List.getElem?_eq_getElem hk2)
      have HYES : Hid (eqRt l[k] m[k] = true → ∀ j a b, j < k + 1 → l[j]? = some a → m[j]? = some b → eqRt a b = true) := fun he j a b hj ha hb => by
        by_cases e : j = k
        · subst e
          rw [List.getElem?_eq_getElem hk1] at ha
          rw [List.getElem?_eq_getElem hk2] at hb
          cases ha
          cases hb
          exact he
        · exact HE.out j a b (by omega) ha hb
      generalize l[k] = ra1 at *
      generalize m[k] = rb1 at *
      clear r1 r2 hc1 hc2 HE
      have hk0 : (0 : Int) ≤ (k : Int) := Int.natCast_nonneg _
      have hkn : (k : Int) < (n : Int) := by omega
      go_wp2_with fail
      refine region_ord (fun W => RtAt W b1 (o1 + k * 11) ra1 pa pc ca cc ra rc ∧ RtAt W b2 (o2 + k * 11) rb1 pa2 pc2 ca2 cc2 ra2 rc2) (fun q => q == 8) [0, 1, 2, 3, 4, 5, 6, 7, 8, 9] (by kernel_rfl) (by kernel_rfl) (by rfl) (by kernel_rfl) ⟨R1.out.below (Below.refl _ _).drew, R2.out.below (Below.refl _ _).drew⟩ ?_
      iterate 3 refine ord_q (by rfl) (by rfl) (by rfl) (fun w9 h9 => (by clear h9; go_simp; first | done | rfl)) (by go_simp; first | done | rfl) ?_
      refine ord_q (by rfl) (by rfl) (by rfl) (fun w9 h9 => exec_loadR_at (by rfl) h9.1) (by go_simp; first | done | rfl) ?_
      iterate 3 refine ord_q (by rfl) (by rfl) (by rfl) (fun w9 h9 => (by clear h9; go_simp; first | done | rfl)) (by go_simp; first | done | rfl) ?_
      refine ord_q (by rfl) (by rfl) (by rfl) (fun w9 h9 => exec_loadR_at (by rfl) h9.2) (by go_simp; first | done | rfl) ?_
      refine ord_l (by rfl) (by rfl) (by rfl) ?_
      go_simp
      refine (samer_any pa pc ca cc ra rc pa2 pc2 ca2 cc2 ra2 rc2 ra1 rb1 wr.drew hq1 hq2 (R1.out.below (Below.refl _ _).drew).2 (R2.out.below (Below.refl _ _).drew).2).mono ?_
      rintro e w2 ⟨rfl, hb2⟩
      have hb3 : Below wr.heap.size wr w2 := (Below.refl _ _).drew.trans hb2
      refine ⟨⟨R1.out.below hb3, R2.out.below hb3⟩, ?_⟩
      have HB2 : Hid (Below w.heap.size w w2) := HB.out.trans (hb3.mono HB.out.size)
      clear hb2 hb3 HB R1 R2
      cases he : eqRt ra1 rb1 with
      | true =>
        have HY := hide (HYES.out he)
        clear HNO HYES he
        repeat refine ord_q (by rfl) (by rfl) (by rfl) (fun w9 h9 => (by clear h9; go_simp; first | done | rfl)) (by go_simp; first | done | rfl) ?_
        refine ⟨fun _ h => (by cases h), ?_⟩
        go_wp2
        exact ⟨⟨k + 1, by omega, by go_num, HB2, HY⟩, by simp [intOf]; omega⟩
      | false =>
        have HN := hide (HNO.out he)
        clear HNO HYES he
        repeat refine ord_q (by rfl) (by rfl) (by rfl) (fun w9 h9 => (by clear h9; go_simp; first | done | rfl)) (by go_simp; first | done | rfl) ?_
        refine ⟨fun _ h => (by cases h), ?_⟩
        go_wp2
        go_ret
        exact ⟨ret_bool HN.out.symm, HB2.out⟩
    · have HA : Hid (eqRts l m = true) := eqRts_all l m (by rw [HL.out, HM.out]) (fun j a b ha hb => HE.out j a b (by have := (List.getElem?_eq_some_iff.1 ha).1; have := HL.out; omega) ha hb)
      go_wp2
      go_ret
      exact ⟨ret_bool HA.out.symm, HB.out⟩
theorem samers_any (a1 a2 : Option Addr) (c1 c2 : Nat) (l m : List Rt) (w : World) (hn : l.length ≤ 100000) (h1 : RtsRd w a1 l) (h2 : RtsRd w a2 m) (s1 : smallRs l) (s2 : smallRs m) :
    Calls Tryd.prog 20 #[.slice a1 l.length c1, .slice a2 m.length c2] w fun e w' => e = .returned (.bool (eqRts l m)) ∧ Below w.heap.size w w' := by
  by_cases e : l.length = m.length
  · rw [← e]
    exact samers_some a1 a2 _ c1 c2 l m w rfl e.symm hn h1 h2 s1 s2
  · have h : eqRts l m = false := by
      cases hh : eqRts l m with
      | false => rfl
      | true => exact absurd (eqRts_length l m hh) e
    rw [h]
    exact samers_len a1 a2 _ _ c1 c2 w e
end Go.Proofs.YthigjonagbfbbaaDoor
