/- 'list, vals = append(append([]Prefix{}, list[:at]...), list[at+1:]...), append(append([]int{}, ..)..)': both rows, in any order. -/
import Derived.Test.YtfecknbneonidaaTpR
namespace Go.Proofs.Ytfecknbneonidaa
open Go.RowKit
set_option maxRecDepth 100000

/-- A chain: nothing; the empty row; the first part; both. -/
def Gone (B e size s1 s2 s3 n1 n2 : Nat) (xs ys : List Value) (i : Nat) (a : Act) (w : World) : Prop :=
  i = 0 ∨ (i = 1 ∧ RowIn B e size a w s1 0 []) ∨ (i = 2 ∧ RowIn B e size a w s2 n1 xs) ∨ (i = 3 ∧ RowIn B e size a w s3 (n1 + n2) (xs ++ ys))
section
variable {B e size s1 s2 s3 n1 n2 : Nat} {xs ys : List Value} {i : Nat} {a : Act} {w w' : World}
theorem Gone.put (h : Gone B e size s1 s2 s3 n1 n2 xs ys i a w) {t : Nat} (v : Value) (h1 : t ≠ s1) (h2 : t ≠ s2) (h3 : t ≠ s3) : Gone B e size s1 s2 s3 n1 n2 xs ys i (a.put (some t) v) w := by
  rcases h with h | ⟨h, k⟩ | ⟨h, k⟩ | ⟨h, k⟩
  · exact .inl h
  · exact .inr (.inl ⟨h, k.put v h1⟩)
  · exact .inr (.inr (.inl ⟨h, k.put v h2⟩))
  · exact .inr (.inr (.inr ⟨h, k.put v h3⟩))
theorem Gone.later (h : Gone B e size s1 s2 s3 n1 n2 xs ys i a w) (hb : Below w.heap.size w w') : Gone B e size s1 s2 s3 n1 n2 xs ys i a w' := by
  rcases h with h | ⟨h, k⟩ | ⟨h, k⟩ | ⟨h, k⟩
  · exact .inl h
  · exact .inr (.inl ⟨h, k.later hb⟩)
  · exact .inr (.inr (.inl ⟨h, k.later hb⟩))
  · exact .inr (.inr (.inr ⟨h, k.later hb⟩))
theorem Gone.other {e' size' n' : Nat} {xs' : List Value} {v' : Value} (h : Gone B e size s1 s2 s3 n1 n2 xs ys i a w) (ho : w.ownsRow B e' size' v' n' xs') (hne : e ≠ e') (hg : w.grownBy w' v'.ownBlock) : Gone B e size s1 s2 s3 n1 n2 xs ys i a w' := by
  rcases h with h | ⟨h, k⟩ | ⟨h, k⟩ | ⟨h, k⟩
  · exact .inl h
  · exact .inr (.inl ⟨h, k.other ho hne hg⟩)
  · exact .inr (.inr (.inl ⟨h, k.other ho hne hg⟩))
  · exact .inr (.inr (.inr ⟨h, k.other ho hne hg⟩))
end
theorem Cells.later {w w' : World} {a : Option Addr} {l : List Value} (h : Cells w a l) (hb : Below w.heap.size w w') : Cells w' a l := by
  rcases h with h | ⟨g, o, e, hc⟩
  · exact .inl h
  · exact .inr ⟨g, o, e, fun j u hu => by rw [hb.cell (p := ⟨g, o + j, none⟩) (World.block_lt_of_cell? w _ (hc j u hu))]; exact hc j u hu⟩
section
variable {a : Act} {w : World} {dst : Option Tmp} {ty : TypeId} {pos : String} {after : Array Edge} {K : Act → World → Prop} {Q : Exit → Act → World → Prop}
theorem wp_emptyP (h : K (a.put dst (.slice (some ⟨w.heap.size, 0, none⟩) 0 0)) (w.alloc (.cells #[] 31))) : Oper.wp Try.prog { dst := dst, op := .buildSlice 27 0 #[], type := ty, pos := pos, after := after, guard := none } a w K Q := by
  have hr : (execOp a.eval { dst := dst, op := .buildSlice 27 0 #[], type := ty, pos := pos, after := after, guard := none }).run Try.prog w = .ok (.value (.slice (some ⟨w.heap.size, 0, none⟩) 0 0)) (w.alloc (.cells #[] 31)) := by
    unfold execOp
    simp [go_sem]
  unfold Oper.wp
  rw [hr]
  exact h
theorem wp_emptyI (h : K (a.put dst (.slice (some ⟨w.heap.size, 0, none⟩) 0 0)) (w.alloc (.cells #[] 3))) : Oper.wp Try.prog { dst := dst, op := .buildSlice 28 0 #[], type := ty, pos := pos, after := after, guard := none } a w K Q := by
  have hr : (execOp a.eval { dst := dst, op := .buildSlice 28 0 #[], type := ty, pos := pos, after := after, guard := none }).run Try.prog w = .ok (.value (.slice (some ⟨w.heap.size, 0, none⟩) 0 0)) (w.alloc (.cells #[] 3)) := by
    unfold execOp
    simp [go_sem]
  unfold Oper.wp
  rw [hr]
  exact h
end
def lstG (i j : Nat) : Array Bool := #[decide (1 ≤ i), true, true, true, decide (2 ≤ i), true, true, true, true, decide (3 ≤ i), decide (1 ≤ j), true, true, true, decide (2 ≤ j), true, true, true, true, decide (3 ≤ j), false, false]
def cG (i : Nat) : Nat := if i = 0 then 0 else if i = 1 then 4 else 9
def dG (i : Nat) : Nat := if i = 0 then 10 else if i = 1 then 14 else 19
def gridG (ops : Array Oper) : Bool := (List.range 4).all fun i => (List.range 4).all fun j => (i == 3 && j == 3) || (!(Region.ready .any ops (lstG i j)).isEmpty && (Region.ready .any ops (lstG i j)).all fun x => (decide (i < 3) && x == cG i) || (decide (j < 3) && x == dG j))
theorem lstG_c : ∀ i, i < 3 → ∀ j, j < 4 → (lstG i j).setIfInBounds (cG i) true = lstG (i + 1) j := by decide
theorem lstG_d : ∀ i, i < 4 → ∀ j, j < 3 → (lstG i j).setIfInBounds (dG j) true = lstG i (j + 1) := by decide
set_option maxHeartbeats 1000000 in
theorem gone_rows {ops : Array Oper} {Q : Exit → Act → World → Prop} (b : Act) (w0 : World) (hsz : b.tmps.size = 290)
    (o0 : ∃ po af, ops[0]? = some { dst := some 96, op := .buildSlice 27 0 #[], type := 27, pos := po, after := af, guard := none })
    (o4 : ∃ po af, ops[4]? = some { dst := some 100, op := .call { callee := .builtin .append, args := #[.tmp 96, .tmp 99], argTypes := #[27, 27] }, type := 27, pos := po, after := af, guard := none })
    (o9 : ∃ po af, ops[9]? = some { dst := some 105, op := .call { callee := .builtin .append, args := #[.tmp 100, .tmp 104], argTypes := #[27, 27] }, type := 27, pos := po, after := af, guard := none })
    (o10 : ∃ po af, ops[10]? = some { dst := some 106, op := .buildSlice 28 0 #[], type := 28, pos := po, after := af, guard := none })
    (o14 : ∃ po af, ops[14]? = some { dst := some 110, op := .call { callee := .builtin .append, args := #[.tmp 106, .tmp 109], argTypes := #[28, 28] }, type := 28, pos := po, after := af, guard := none })
    (o19 : ∃ po af, ops[19]? = some { dst := some 115, op := .call { callee := .builtin .append, args := #[.tmp 110, .tmp 114], argTypes := #[28, 28] }, type := 28, pos := po, after := af, guard := none })
    (o20 : ∃ ty po af, ops[20]? = some { dst := some 6, op := .assign (.tmp 105), type := ty, pos := po, after := af, guard := none })
    (o21 : ∃ ty po af, ops[21]? = some { dst := some 7, op := .assign (.tmp 115), type := ty, pos := po, after := af, guard := none })
    (hg : gridG ops = true) (r20 : Region.ready .any ops (lstG 3 3) = [20]) (r21 : Region.ready .any ops ((lstG 3 3).setIfInBounds 20 true) = [21]) (rE : Region.ready .any ops (((lstG 3 3).setIfInBounds 20 true).setIfInBounds 21 true) = [])
    (A1 A2 A3 A4 : Option Addr) (n1 n2 k1 k2 k3 k4 : Nat) (X Y : List (Nat × Nat)) (U Z : List Int)
    (s99 : b.tmps[99]? = some (.slice A1 n1 k1)) (s104 : b.tmps[104]? = some (.slice A2 n2 k2)) (s109 : b.tmps[109]? = some (.slice A3 n1 k3)) (s114 : b.tmps[114]? = some (.slice A4 n2 k4))
    (lX : X.length = n1) (lY : Y.length = n2) (lU : U.length = n1) (lZ : Z.length = n2) (hn : n1 + n2 ≤ 1000)
    (cX : Cells w0 A1 (pcells X)) (cY : Cells w0 A2 (pcells Y)) (cU : Cells w0 A3 (vcells U)) (cZ : Cells w0 A4 (vcells Z))
    (fin : ∀ W v1 v2 x1 x2 x3 x4 x5 x6, W.ownsRow w0.heap.size 31 2 v1 (n1 + n2) (pcells X ++ pcells Y) → W.ownsRow w0.heap.size 3 1 v2 (n1 + n2) (vcells U ++ vcells Z) → Below w0.heap.size w0 W → Q .normal ((((((((b.put (some 96) x1).put (some 100) x2).put (some 105) x3).put (some 106) x4).put (some 110) x5).put (some 115) x6).put (some 6) v1).put (some 7) v2) W)
    (W0 : World) (hW0 : Below w0.heap.size w0 W0) :
    wpAnyH Try.prog .any ops Q (fun W => Below w0.heap.size w0 W) 8 (lstG 0 0) b W0 := by
  obtain ⟨p0, f0, h0⟩ := o0
  obtain ⟨p4, f4, h4⟩ := o4
  obtain ⟨p9, f9, h9⟩ := o9
  obtain ⟨p10, f10, h10⟩ := o10
  obtain ⟨p14, f14, h14⟩ := o14
  obtain ⟨p19, f19, h19⟩ := o19
  obtain ⟨t20, p20, f20, h20⟩ := o20
  obtain ⟨t21, p21, f21, h21⟩ := o21
  have hgr : ∀ i j, i ≤ 3 → j ≤ 3 → ¬ (i = 3 ∧ j = 3) → Region.ready .any ops (lstG i j) ≠ [] ∧ ∀ x ∈ Region.ready .any ops (lstG i j), (i < 3 ∧ x = cG i) ∨ (j < 3 ∧ x = dG j) := by
    intro i j hi hj hne
    have h1 := List.all_eq_true.1 (List.all_eq_true.1 hg i (List.mem_range.2 (by omega))) j (List.mem_range.2 (by omega))
    rw [Bool.or_eq_true] at h1
    rcases h1 with h1 | h1
    · simp at h1; exact absurd h1 hne
    · rw [Bool.and_eq_true] at h1
      refine ⟨fun e => by rw [e] at h1; simp at h1, fun x hx => ?_⟩
      have h2 := List.all_eq_true.1 h1.2 x hx
      simp only [Bool.or_eq_true, Bool.and_eq_true, decide_eq_true_eq, beq_iff_eq] at h2
      exact h2
  refine grid2 (P := Try.prog) (Q := Q) (S := fun W => Below w0.heap.size w0 W) 3 3 2 cG dG lstG
    (fun i j a W => Below w0.heap.size w0 W ∧ Fr [96, 100, 105, 106, 110, 115, 6, 7] b a ∧ Gone w0.heap.size 31 2 96 100 105 n1 n2 (pcells X) (pcells Y) i a W ∧ Gone w0.heap.size 3 1 106 110 115 n1 n2 (vcells U) (vcells Z) j a W)
    (fun i j hi hj => lstG_c i hi j (by omega)) (fun i j hi hj => lstG_d i (by omega) j hj) hgr ?_ ?_ ?_ 6 0 0 b W0 rfl (by omega) (by omega) ⟨hW0, Fr.refl _ _, .inl rfl, .inl rfl⟩
  · rintro i j a w hi hj ⟨hb, hf, g1, g2⟩
    have z96 : 96 < a.tmps.size := by rw [hf.size, hsz]; decide
    have z100 : 100 < a.tmps.size := by rw [hf.size, hsz]; decide
    have z105 : 105 < a.tmps.size := by rw [hf.size, hsz]; decide
    rcases g1 with rfl | ⟨rfl, v, hv, ho⟩ | ⟨rfl, v, hv, ho⟩ | ⟨rfl, _⟩
    · refine op_plain (i := 0) h0 rfl (wp_emptyP ?_)
      have hb2 : Below w0.heap.size w0 (w.alloc (.cells #[] 31)) := hb.alloc hb.size _
      exact ⟨hb2, hb2, hf.put (by decide) _, .inr (.inl ⟨rfl, _, slot_same _ z96, own_empty w _ _ _ hb.size⟩), (g2.later ((Below.refl _ _).alloc (Nat.le_refl _) _)).put _ (by decide) (by decide) (by decide)⟩
    · obtain ⟨v', w', hr, ho', hb', hg', _⟩ := app_any elemPfx ho hb.size A1 n1 k1 (pcells X) (by rw [pcells_length, lX]) (cX.later hb) (pcells_one X) (by omega)
      refine op_plain (i := 4) h4 rfl (wp_append _ _ v (.slice A1 n1 k1) v' (slot_eval hv) (slot_eval (hf.slot (by decide) s99)) hr ?_)
      have hb2 := hb.trans hb'
      exact ⟨hb2, hb2, hf.put (by decide) _, .inr (.inr (.inl ⟨rfl, v', slot_same _ z100, by simpa using ho'⟩)), (g2.other ho (by decide) hg').put _ (by decide) (by decide) (by decide)⟩
    · obtain ⟨v', w', hr, ho', hb', hg', _⟩ := app_any elemPfx ho hb.size A2 n2 k2 (pcells Y) (by rw [pcells_length, lY]) (cY.later hb) (pcells_one Y) (by omega)
      refine op_plain (i := 9) h9 rfl (wp_append _ _ v (.slice A2 n2 k2) v' (slot_eval hv) (slot_eval (hf.slot (by decide) s104)) hr ?_)
      have hb2 := hb.trans hb'
      exact ⟨hb2, hb2, hf.put (by decide) _, .inr (.inr (.inr ⟨rfl, v', slot_same _ z105, ho'⟩)), (g2.other ho (by decide) hg').put _ (by decide) (by decide) (by decide)⟩
    · omega
  · rintro i j a w hi hj ⟨hb, hf, g1, g2⟩
    have z106 : 106 < a.tmps.size := by rw [hf.size, hsz]; decide
    have z110 : 110 < a.tmps.size := by rw [hf.size, hsz]; decide
    have z115 : 115 < a.tmps.size := by rw [hf.size, hsz]; decide
    rcases g2 with rfl | ⟨rfl, v, hv, ho⟩ | ⟨rfl, v, hv, ho⟩ | ⟨rfl, _⟩
    · refine op_plain (i := 10) h10 rfl (wp_emptyI ?_)
      have hb2 : Below w0.heap.size w0 (w.alloc (.cells #[] 3)) := hb.alloc hb.size _
      exact ⟨hb2, hb2, hf.put (by decide) _, (g1.later ((Below.refl _ _).alloc (Nat.le_refl _) _)).put _ (by decide) (by decide) (by decide), .inr (.inl ⟨rfl, _, slot_same _ z106, own_empty w _ _ _ hb.size⟩)⟩
    · obtain ⟨v', w', hr, ho', hb', hg', _⟩ := app_any elemI ho hb.size A3 n1 k3 (vcells U) (by rw [vcells_length, lU]; omega) (cU.later hb) (vcells_one U) (by omega)
      refine op_plain (i := 14) h14 rfl (wp_append _ _ v (.slice A3 n1 k3) v' (slot_eval hv) (slot_eval (hf.slot (by decide) s109)) hr ?_)
      have hb2 := hb.trans hb'
      exact ⟨hb2, hb2, hf.put (by decide) _, (g1.other ho (by decide) hg').put _ (by decide) (by decide) (by decide), .inr (.inr (.inl ⟨rfl, v', slot_same _ z110, by simpa using ho'⟩))⟩
    · obtain ⟨v', w', hr, ho', hb', hg', _⟩ := app_any elemI ho hb.size A4 n2 k4 (vcells Z) (by rw [vcells_length, lZ]; omega) (cZ.later hb) (vcells_one Z) (by omega)
      refine op_plain (i := 19) h19 rfl (wp_append _ _ v (.slice A4 n2 k4) v' (slot_eval hv) (slot_eval (hf.slot (by decide) s114)) hr ?_)
      have hb2 := hb.trans hb'
      exact ⟨hb2, hb2, hf.put (by decide) _, (g1.other ho (by decide) hg').put _ (by decide) (by decide) (by decide), .inr (.inr (.inr ⟨rfl, v', slot_same _ z115, ho'⟩))⟩
    · omega
  · rintro a w ⟨hb, hf, g1, g2⟩
    obtain ⟨v1, hv1, ho1⟩ : RowIn w0.heap.size 31 2 a w 105 (n1 + n2) (pcells X ++ pcells Y) := by
      rcases g1 with h | ⟨h, _⟩ | ⟨h, _⟩ | ⟨_, h⟩
      · omega
      · omega
      · omega
      · exact h
    obtain ⟨v2, hv2, ho2⟩ : RowIn w0.heap.size 3 1 a w 115 (n1 + n2) (vcells U ++ vcells Z) := by
      rcases g2 with h | ⟨h, _⟩ | ⟨h, _⟩ | ⟨_, h⟩
      · omega
      · omega
      · omega
      · exact h
    have z6 : 6 < a.tmps.size := by rw [hf.size, hsz]; decide
    refine wpAnyH_all r20 (by simp) fun i hi => ?_
    obtain rfl : i = 20 := by simpa using hi
    refine op_plain h20 rfl ?_
    have q1 : a.eval (.tmp 105) = v1 := slot_eval hv1
    unfold Oper.wp execOp
    simp only [q1]
    show _ ∧ _
    refine ⟨hb, ?_⟩
    refine wpAnyH_all r21 (by simp) fun i hi => ?_
    obtain rfl : i = 21 := by simpa using hi
    refine op_plain h21 rfl ?_
    have hv2' : (a.put (some 6) v1).tmps[115]? = some v2 := by rw [slot_put _ (by decide)]; exact hv2
    have q2 : (a.put (some 6) v1).eval (.tmp 115) = v2 := slot_eval hv2'
    unfold Oper.wp execOp
    simp only [q2]
    show _ ∧ _
    have hf2 := (hf.put (t := 6) (by decide) v1).put (t := 7) (by decide) v2
    have g6 : ((a.put (some 6) v1).put (some 7) v2).tmps[6]? = some v1 := by rw [slot_put _ (by decide)]; exact slot_same _ z6
    have g7 : ((a.put (some 6) v1).put (some 7) v2).tmps[7]? = some v2 := slot_same _ (by rw [(hf.put (by decide) v1).size, hsz]; decide)
    generalize (a.put (some 6) v1).put (some 7) v2 = a2 at *
    have hz2 : a2.tmps.size = 290 := hf2.size.trans hsz
    obtain ⟨x1, k1⟩ : ∃ x, a2.tmps[96]? = some x := ⟨_, Array.getElem?_eq_getElem (by rw [hz2]; omega)⟩
    obtain ⟨x2, k2⟩ : ∃ x, a2.tmps[100]? = some x := ⟨_, Array.getElem?_eq_getElem (by rw [hz2]; omega)⟩
    obtain ⟨x3, k3⟩ : ∃ x, a2.tmps[105]? = some x := ⟨_, Array.getElem?_eq_getElem (by rw [hz2]; omega)⟩
    obtain ⟨x4, k4⟩ : ∃ x, a2.tmps[106]? = some x := ⟨_, Array.getElem?_eq_getElem (by rw [hz2]; omega)⟩
    obtain ⟨x5, k5⟩ : ∃ x, a2.tmps[110]? = some x := ⟨_, Array.getElem?_eq_getElem (by rw [hz2]; omega)⟩
    obtain ⟨x6, k6⟩ : ∃ x, a2.tmps[115]? = some x := ⟨_, Array.getElem?_eq_getElem (by rw [hz2]; omega)⟩
    have hlit := Fr.eq (l := [(96, x1), (100, x2), (105, x3), (106, x4), (110, x5), (115, x6), (6, v1), (7, v2)]) rfl hf2.defers hf2.size hf2.out (fun p hp => by
      simp only [List.mem_cons, List.not_mem_nil, or_false] at hp
      rcases hp with rfl | rfl | rfl | rfl | rfl | rfl | rfl | rfl
      · exact k1
      · exact k2
      · exact k3
      · exact k4
      · exact k5
      · exact k6
      · exact g6
      · exact g7)
    simp only [List.foldl_cons, List.foldl_nil] at hlit
    rw [hlit]
    exact ⟨hb, wpAnyH_done rE (fin w v1 v2 x1 x2 x3 x4 x5 x6 ho1 ho2 hb) 0⟩
end Go.Proofs.Ytfecknbneonidaa
