/- Lists of routes that are read; the document's SameRoutes. -/
import Derived.Test.YtjlmkaeepeamkaaRtS
import Derived.Test.YtjlmkaeepeamkaaRtM
import Derived.Test.YtjlmkaeepeamkaaMix
namespace Go.Proofs.Ytjlmkaeepeamkaa
open Go.RowKit
set_option maxRecDepth 100000

/-- A route that is read at a place of a block: its cells, and what they lead to. -/
def RtAt (w : World) (g o : Nat) (r : Rt) (pa : Option Addr) (pc : Nat) (ca : Option Addr) (cc : Nat) (ra : Option Addr) (rc : Nat) : Prop :=
  (∀ j v, (rtC pa pc ca cc ra rc r)[j]? = some v → w.cell? ⟨g, o + j, none⟩ = some v) ∧ AtRd w pa ca ra r.att
theorem RtAt.below {w w' : World} {g o : Nat} {r : Rt} {pa : Option Addr} {pc : Nat} {ca : Option Addr} {cc : Nat} {ra : Option Addr} {rc : Nat} (h : RtAt w g o r pa pc ca cc ra rc) (hb : Below w.heap.size w w') : RtAt w' g o r pa pc ca cc ra rc :=
  ⟨fun j v hv => by
    have h1 := h.1 j v hv
    rw [hb.cell (p := ⟨g, o + j, none⟩) (World.block_lt_of_cell? w _ h1)]
    exact h1, h.2.below hb⟩
/-- The slice's elements are the routes l. -/
def RtsRd (w : World) (a : Option Addr) (l : List Rt) : Prop := 0 < l.length → ∃ b off, a = some ⟨b, off, none⟩ ∧ ∀ i r, l[i]? = some r → ∃ pa pc ca cc ra rc, RtAt w b (off + i * 11) r pa pc ca cc ra rc
theorem RtsRd.below {w w' : World} {a : Option Addr} {l : List Rt} (h : RtsRd w a l) (hb : Below w.heap.size w w') : RtsRd w' a l := fun hp => by
  obtain ⟨b, off, e, hc⟩ := h hp
  refine ⟨b, off, e, fun i r hi => ?_⟩
  obtain ⟨pa, pc, ca, cc, ra, rc, h1⟩ := hc i r hi
  exact ⟨pa, pc, ca, cc, ra, rc, h1.below hb⟩
theorem run_loadR_at {w : World} {g o : Nat} {r : Rt} {pa : Option Addr} {pc : Nat} {ca : Option Addr} {cc : Nat} {ra : Option Addr} {rc : Nat} (h : RtAt w g o r pa pc ca cc ra rc) : (Instr.loadAt 36 (.pointer (some ⟨g, o, none⟩))).run Try.prog w = .ok (.agg (rtC pa pc ca cc ra rc r)) w := by
  have := run_loadAt_mid (P := Try.prog) w g o 36 (rtC pa pc ca cc ra rc r).toList _ (fun j v hv => h.1 j v (by rw [← Array.getElem?_toList]; exact hv)) Try.underlying36 rfl (by rw [infoR]; rfl)
  simpa using this
section
variable {ρ : Operand → Value} {dst : Option Tmp} {ty : TypeId} {pos : String} {after : Array Edge} {gd : Option (Nat × Bool)}
theorem exec_loadR_at {w : World} {g o : Nat} {x : Operand} {r : Rt} {pa : Option Addr} {pc : Nat} {ca : Option Addr} {cc : Nat} {ra : Option Addr} {rc : Nat} (hx : ρ x = .pointer (some ⟨g, o, none⟩)) (h : RtAt w g o r pa pc ca cc ra rc) :
    (execOp ρ { dst := dst, op := .load 36 x, type := ty, pos := pos, after := after, guard := gd }).run Try.prog w = .ok (.value (.agg (rtC pa pc ca cc ra rc r))) w := by
  have hr := run_loadR_at h
  unfold execOp
  simp only [hx, Sem.run_bind, hr, Result.andThen_ok, Sem.run_pure]
end
/-- The same lists? -/
def eqRts : List Rt → List Rt → Bool
  | [], [] => true
  | a :: l, b :: m => eqRt a b && eqRts l m
  | _, _ => false
theorem eqRts_length : ∀ (l m : List Rt), eqRts l m = true → l.length = m.length
  | [], [], _ => rfl
  | _ :: l, _ :: m, h => by
    simp only [eqRts, Bool.and_eq_true] at h
    simp [eqRts_length l m h.2]
  | [], _ :: _, h => by cases h
  | _ :: _, [], h => by cases h
theorem eqRts_at : ∀ (l m : List Rt) (k : Nat) (a b : Rt), l[k]? = some a → m[k]? = some b → eqRt a b = false → eqRts l m = false
  | [], _, _, _, _, h, _, _ => by simp at h
  | _ :: _, [], _, _, _, _, h, _ => by simp at h
  | x :: l, y :: m, 0, a, b, h1, h2, h3 => by
    simp at h1 h2
    subst h1 h2
    simp [eqRts, h3]
  | x :: l, y :: m, k + 1, a, b, h1, h2, h3 => by
    simp at h1 h2
    simp [eqRts, eqRts_at l m k a b h1 h2 h3]
theorem eqRts_all : ∀ (l m : List Rt), l.length = m.length → (∀ (k : Nat) a b, l[k]? = some a → m[k]? = some b → eqRt a b = true) → eqRts l m = true
  | [], [], _, _ => rfl
  | x :: l, y :: m, h, hh => by
    simp only [eqRts, Bool.and_eq_true]
    exact ⟨hh 0 x y rfl rfl, eqRts_all l m (by simpa using h) (fun k a b h1 h2 => hh (k + 1) a b (by simpa using h1) (by simpa using h2))⟩
  | [], _ :: _, h, _ => by simp at h
  | _ :: _, [], h, _ => by simp at h
/-- None too great to be played. -/
def smallRs (l : List Rt) : Prop := ∀ r ∈ l, sizeA r.att ≤ 100000
set_option maxHeartbeats 400000 in
theorem samers_len (a1 a2 : Option Addr) (n1 n2 c1 c2 : Nat) (w : World) (h : n1 ≠ n2) : Calls Try.prog 17 #[.slice a1 n1 c1, .slice a2 n2 c2] w fun e w' => e = .returned (.bool false) ∧ Below w.heap.size w w' := by
  have h1 : ((n1 : Int) != (n2 : Int)) = true := by simp; omega
  have h2 : (n1 != n2) = true := by simpa using h
  go_enter Try.func17, Try.ntmps17
  go_wp2
  go_ret
  exact ⟨rfl, Below.refl _ _⟩
set_option maxHeartbeats 3200000 in
theorem samers_some (a1 a2 : Option Addr) (n c1 c2 : Nat) (l m : List Rt) (w : World) (hl : l.length = n) (hm : m.length = n) (hn : n ≤ 100000) (h1 : RtsRd w a1 l) (h2 : RtsRd w a2 m) (s1 : smallRs l) (s2 : smallRs m) :
    Calls Try.prog 17 #[.slice a1 n c1, .slice a2 n c2] w fun e w' => e = .returned (.bool (eqRts l m)) ∧ Below w.heap.size w w' := by
  have HL := hide hl
  have HM := hide hm
  have H1 := hide h1
  have H2 := hide h2
  clear hl hm h1 h2
  go_enter Try.func17, Try.ntmps17
  go_wp2
  go_loopw [5] (fun i wq => ∃ k : Nat, k ≤ n ∧ i = .int .i64 k ∧ Hid (Below w.heap.size w wq) ∧ Hid (∀ j a b, j < k → l[j]? = some a → m[j]? = some b → eqRt a b = true)) (fun i _ => n - (intOf i).toNat)
  case atStart => exact ⟨0, Nat.zero_le _, rfl, Below.refl _ _, fun j a b h => absurd h (by omega)⟩
  case round =>
    obtain ⟨k, hk, rfl, HB, HE⟩ := hrel
    by_cases hlt : k < n
    · have hk1 : k < l.length := by rw [HL.out]; exact hlt
      have hk2 : k < m.length := by rw [HM.out]; exact hlt
      obtain ⟨b1, o1, rfl, hc1⟩ := H1.out (by omega)
      obtain ⟨b2, o2, rfl, hc2⟩ := H2.out (by omega)
      obtain ⟨pa, pc, ca, cc, ra, rc, r1⟩ := hc1 k _ (List.getElem?_eq_getElem hk1)
      obtain ⟨pa2, pc2, ca2, cc2, ra2, rc2, r2⟩ := hc2 k _ (List.getElem?_eq_getElem hk2)
      have R1 := hide (r1.below HB.out)
      have R2 := hide (r2.below HB.out)
      have hq1 := s1 _ (List.getElem_mem hk1)
      have hq2 := s2 _ (List.getElem_mem hk2)
      have HNO : Hid (eqRt l[k] m[k] = false → eqRts l m = false) := eqRts_at l m k _ _ (List.getElem?_eq_getElem hk1) (List.getElem?_eq_getElem hk2)
      have HYES : Hid (eqRt l[k] m[k] = true → ∀ j a b, j < k + 1 → l[j]? = some a → m[j]? = some b → eqRt a b = true) := fun he j a b hj ha hb => by
        by_cases e : j = k
        · subst e
          rw [List.getElem?_eq_getElem hk1] at ha
          rw [List.getElem?_eq_getElem hk2] at hb
          cases ha
          cases hb
          exact he
        · exact HE.out j a b (by omega) ha hb
      generalize l[k] = ra1 at *
      generalize m[k] = rb1 at *
      clear r1 r2 hc1 hc2 HE
      have hk0 : (0 : Int) ≤ (k : Int) := Int.natCast_nonneg _
      have hkn : (k : Int) < (n : Int) := by omega
      go_wp2_with fail
      refine region_ord (fun W => RtAt W b1 (o1 + k * 11) ra1 pa pc ca cc ra rc ∧ RtAt W b2 (o2 + k * 11) rb1 pa2 pc2 ca2 cc2 ra2 rc2) (fun q => q == 8) [0, 1, 2, 3, 4, 5, 6, 7, 8, 9] (by kernel_rfl) (by kernel_rfl) (by rfl) (by kernel_rfl) ⟨R1.out.below (Below.refl _ _).drew, R2.out.below (Below.refl _ _).drew⟩ ?_
      iterate 3 refine ord_q (by rfl) (by rfl) (by rfl) (fun w9 h9 => (by clear h9; go_simp; first | done | rfl)) (by go_simp; first | done | rfl) ?_
      refine ord_q (by rfl) (by rfl) (by rfl) (fun w9 h9 => exec_loadR_at (by rfl) h9.1) (by go_simp; first | done | rfl) ?_
      iterate 3 refine ord_q (by rfl) (by rfl) (by rfl) (fun w9 h9 => (by clear h9; go_simp; first | done | rfl)) (by go_simp; first | done | rfl) ?_
      refine ord_q (by rfl) (by rfl) (by rfl) (fun w9 h9 => exec_loadR_at (by rfl) h9.2) (by go_simp; first | done | rfl) ?_
      refine ord_l (by rfl) (by rfl) (by rfl) ?_
      go_simp
      refine (samer_any pa pc ca cc ra rc pa2 pc2 ca2 cc2 ra2 rc2 ra1 rb1 wr.drew hq1 hq2 (R1.out.below (Below.refl _ _).drew).2 (R2.out.below (Below.refl _ _).drew).2).mono ?_
      rintro e w2 ⟨rfl, hb2⟩
      have hb3 : Below wr.heap.size wr w2 := (Below.refl _ _).drew.trans hb2
      refine ⟨⟨R1.out.below hb3, R2.out.below hb3⟩, ?_⟩
      have HB2 : Hid (Below w.heap.size w w2) := HB.out.trans (hb3.mono HB.out.size)
      clear hb2 hb3 HB R1 R2
      cases he : eqRt ra1 rb1 with
      | true =>
        have HY := hide (HYES.out he)
        clear HNO HYES he
        repeat refine ord_q (by rfl) (by rfl) (by rfl) (fun w9 h9 => (by clear h9; go_simp; first | done | rfl)) (by go_simp; first | done | rfl) ?_
        refine ⟨fun _ h => (by cases h), ?_⟩
        go_wp2
        exact ⟨⟨k + 1, by omega, by go_num, HB2, HY⟩, by simp [intOf]; omega⟩
      | false =>
        have HN := hide (HNO.out he)
        clear HNO HYES he
        repeat refine ord_q (by rfl) (by rfl) (by rfl) (fun w9 h9 => (by clear h9; go_simp; first | done | rfl)) (by go_simp; first | done | rfl) ?_
        refine ⟨fun _ h => (by cases h), ?_⟩
        go_wp2
        go_ret
        exact ⟨ret_bool HN.out.symm, HB2.out⟩
    · have HA : Hid (eqRts l m = true) := eqRts_all l m (by rw [HL.out, HM.out]) (fun j a b ha hb => HE.out j a b (by have := (List.getElem?_eq_some_iff.1 ha).1; have := HL.out; omega) ha hb)
      go_wp2
      go_ret
      exact ⟨ret_bool HA.out.symm, HB.out⟩
theorem samers_any (a1 a2 : Option Addr) (c1 c2 : Nat) (l m : List Rt) (w : World) (hn : l.length ≤ 100000) (h1 : RtsRd w a1 l) (h2 : RtsRd w a2 m) (s1 : smallRs l) (s2 : smallRs m) :
    Calls Try.prog 17 #[.slice a1 l.length c1, .slice a2 m.length c2] w fun e w' => e = .returned (.bool (eqRts l m)) ∧ Below w.heap.size w w' := by
  by_cases e : l.length = m.length
  · rw [← e]
    exact samers_some a1 a2 _ c1 c2 l m w rfl e.symm hn h1 h2 s1 s2
  · have h : eqRts l m = false := by
      cases hh : eqRts l m with
      | false => rfl
      | true => exact absurd (eqRts_length l m hh) e
    rw [h]
    exact samers_len a1 a2 _ _ c1 c2 w e
end Go.Proofs.Ytjlmkaeepeamkaa
