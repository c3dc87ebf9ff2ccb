/- Two rows, names and numbers, that grow, or lose one, in a region that draws its order (after the trie's). -/
import Derived.Test.YthbgalknhodgnaaRowG
namespace Go.Proofs.Ythbgalknhodgnaa
open Go.RowKit
set_option maxRecDepth 100000

theorem Try.infoS : (Try.prog.info? 9).map (fun i => (i.zero, i.size, i.bytes)) = some (some (.string ⟨#[]⟩), 1, 16) := by kernel_rfl
theorem elemS : Elem 26 9 1 16 := by
  obtain ⟨i, h1, h2, h3, h4⟩ := info_parts Try.infoS
  exact ⟨Try.underlying26, ⟨i, _, h1, h2, h3, h4, rfl⟩, by omega, by omega⟩
def scells (l : List ByteArray) : List Value := l.map fun x => Value.string x
theorem scells_app (l r : List ByteArray) : scells (l ++ r) = scells l ++ scells r := by simp [scells]
theorem scells_one (l : List ByteArray) : ∀ u ∈ scells l, u.oneCell' = true := by
  intro u hu
  obtain ⟨i, _, rfl⟩ := List.mem_map.1 hu
  rfl
theorem scells_length (l : List ByteArray) : (scells l).length = l.length := by simp [scells]
theorem scells_get {l : List ByteArray} {i : Nat} {a : ByteArray} (h : l[i]? = some a) : (scells l)[i]? = some (.string a) := by
  unfold scells
  rw [List.getElem?_map, h]
  rfl

section
variable {a : Act} {w : World} {dst : Option Tmp} {ty : TypeId} {pos : String} {after : Array Edge} {K : Act → World → Prop} {Q : Exit → Act → World → Prop}
theorem wp_emptyS (h : K (a.put dst (.slice (some ⟨w.heap.size, 0, none⟩) 0 0)) (w.alloc (.cells #[] 9))) : Oper.wp Try.prog { dst := dst, op := .buildSlice 26 0 #[], type := ty, pos := pos, after := after, guard := none } a w K Q := by
  have hr : (execOp a.eval { dst := dst, op := .buildSlice 26 0 #[], type := ty, pos := pos, after := after, guard := none }).run Try.prog w = .ok (.value (.slice (some ⟨w.heap.size, 0, none⟩) 0 0)) (w.alloc (.cells #[] 9)) := by
    unfold execOp
    simp [go_sem]
  unfold Oper.wp
  rw [hr]
  exact h
end
def lstG (i j : Nat) : Array Bool := #[decide (1 ≤ i), true, true, true, decide (2 ≤ i), true, true, true, true, decide (3 ≤ i), decide (1 ≤ j), true, true, true, decide (2 ≤ j), true, true, true, true, decide (3 ≤ j), false, false]
def cG (i : Nat) : Nat := if i = 0 then 0 else if i = 1 then 4 else 9
def dG (i : Nat) : Nat := if i = 0 then 10 else if i = 1 then 14 else 19
def gridG (ops : Array Oper) : Bool := (List.range 4).all fun i => (List.range 4).all fun j => (i == 3 && j == 3) || (!(Region.ready .any ops (lstG i j)).isEmpty && (Region.ready .any ops (lstG i j)).all fun x => (decide (i < 3) && x == cG i) || (decide (j < 3) && x == dG j))
theorem lstG_c : ∀ i, i < 3 → ∀ j, j < 4 → (lstG i j).setIfInBounds (cG i) true = lstG (i + 1) j := by decide
theorem lstG_d : ∀ i, i < 4 → ∀ j, j < 3 → (lstG i j).setIfInBounds (dG j) true = lstG i (j + 1) := by decide
set_option maxHeartbeats 1000000 in
theorem gone_rows {ops : Array Oper} {Q : Exit → Act → World → Prop} (b : Act) (w0 : World) (hsz : b.tmps.size = 225)
    (o0 : ∃ po af, ops[0]? = some { dst := some 204, op := .buildSlice 26 0 #[], type := 26, pos := po, after := af, guard := none })
    (o4 : ∃ po af, ops[4]? = some { dst := some 208, op := .call { callee := .builtin .append, args := #[.tmp 204, .tmp 207], argTypes := #[26, 26] }, type := 26, pos := po, after := af, guard := none })
    (o9 : ∃ po af, ops[9]? = some { dst := some 213, op := .call { callee := .builtin .append, args := #[.tmp 208, .tmp 212], argTypes := #[26, 26] }, type := 26, pos := po, after := af, guard := none })
    (o10 : ∃ po af, ops[10]? = some { dst := some 214, op := .buildSlice 27 0 #[], type := 27, pos := po, after := af, guard := none })
    (o14 : ∃ po af, ops[14]? = some { dst := some 218, op := .call { callee := .builtin .append, args := #[.tmp 214, .tmp 217], argTypes := #[27, 27] }, type := 27, pos := po, after := af, guard := none })
    (o19 : ∃ po af, ops[19]? = some { dst := some 223, op := .call { callee := .builtin .append, args := #[.tmp 218, .tmp 222], argTypes := #[27, 27] }, type := 27, pos := po, after := af, guard := none })
    (o20 : ∃ ty po af, ops[20]? = some { dst := some 4, op := .assign (.tmp 213), type := ty, pos := po, after := af, guard := none })
    (o21 : ∃ ty po af, ops[21]? = some { dst := some 5, op := .assign (.tmp 223), type := ty, pos := po, after := af, guard := none })
    (hg : gridG ops = true) (r20 : Region.ready .any ops (lstG 3 3) = [20]) (r21 : Region.ready .any ops ((lstG 3 3).setIfInBounds 20 true) = [21]) (rE : Region.ready .any ops (((lstG 3 3).setIfInBounds 20 true).setIfInBounds 21 true) = [])
    (A1 A2 A3 A4 : Option Addr) (n1 n2 k1 k2 k3 k4 : Nat) (X Y : List ByteArray) (U Z : List Int)
    (s207 : b.tmps[207]? = some (.slice A1 n1 k1)) (s212 : b.tmps[212]? = some (.slice A2 n2 k2)) (s217 : b.tmps[217]? = some (.slice A3 n1 k3)) (s222 : b.tmps[222]? = some (.slice A4 n2 k4))
    (lX : X.length = n1) (lY : Y.length = n2) (lU : U.length = n1) (lZ : Z.length = n2) (hn : n1 + n2 ≤ 1000)
    (cX : Cells w0 A1 (scells X)) (cY : Cells w0 A2 (scells Y)) (cU : Cells w0 A3 (vcells U)) (cZ : Cells w0 A4 (vcells Z))
    (fin : ∀ W v1 v2 x1 x2 x3 x4 x5 x6, W.ownsRow w0.heap.size 9 1 v1 (n1 + n2) (scells X ++ scells Y) → W.ownsRow w0.heap.size 3 1 v2 (n1 + n2) (vcells U ++ vcells Z) → Below w0.heap.size w0 W → Q .normal ((((((((b.put (some 204) x1).put (some 208) x2).put (some 213) x3).put (some 214) x4).put (some 218) x5).put (some 223) x6).put (some 4) v1).put (some 5) v2) W)
    (W0 : World) (hW0 : Below w0.heap.size w0 W0) :
    wpAnyH Try.prog .any ops Q (fun W => Below w0.heap.size w0 W) 8 (lstG 0 0) b W0 := by
  obtain ⟨p0, f0, h0⟩ := o0
  obtain ⟨p4, f4, h4⟩ := o4
  obtain ⟨p9, f9, h9⟩ := o9
  obtain ⟨p10, f10, h10⟩ := o10
  obtain ⟨p14, f14, h14⟩ := o14
  obtain ⟨p19, f19, h19⟩ := o19
  obtain ⟨t20, p20, f20, h20⟩ := o20
  obtain ⟨t21, p21, f21, h21⟩ := o21
  have hgr : ∀ i j, i ≤ 3 → j ≤ 3 → ¬ (i = 3 ∧ j = 3) → Region.ready .any ops (lstG i j) ≠ [] ∧ ∀ x ∈ Region.ready .any ops (lstG i j), (i < 3 ∧ x = cG i) ∨ (j < 3 ∧ x = dG j) := by
    intro i j hi hj hne
    have h1 := List.all_eq_true.1 (List.all_eq_true.1 hg i (List.mem_range.2 (by omega))) j (List.mem_range.2 (by omega))
    rw [Bool.or_eq_true] at h1
    rcases h1 with h1 | h1
    · simp at h1; exact absurd h1 hne
    · rw [Bool.and_eq_true] at h1
      refine ⟨fun e => by rw [e] at h1; simp at h1, fun x hx => ?_⟩
      have h2 := List.all_eq_true.1 h1.2 x hx
      simp only [Bool.or_eq_true, Bool.and_eq_true, decide_eq_true_eq, beq_iff_eq] at h2
      exact h2
  refine grid2 (P := Try.prog) (Q := Q) (S := fun W => Below w0.heap.size w0 W) 3 3 2 cG dG lstG
    (fun i j a W => Below w0.heap.size w0 W ∧ Fr [204, 208, 213, 214, 218, 223, 4, 5] b a ∧ Gone w0.heap.size 9 1 204 208 213 n1 n2 (scells X) (scells Y) i a W ∧ Gone w0.heap.size 3 1 214 218 223 n1 n2 (vcells U) (vcells Z) j a W)
    (fun i j hi hj => lstG_c i hi j (by omega)) (fun i j hi hj => lstG_d i (by omega) j hj) hgr ?_ ?_ ?_ 6 0 0 b W0 rfl (by omega) (by omega) ⟨hW0, Fr.refl _ _, .inl rfl, .inl rfl⟩
  · rintro i j a w hi hj ⟨hb, hf, g1, g2⟩
    have z204 : 204 < a.tmps.size := by rw [hf.size, hsz]; decide
    have z208 : 208 < a.tmps.size := by rw [hf.size, hsz]; decide
    have z213 : 213 < a.tmps.size := by rw [hf.size, hsz]; decide
    rcases g1 with rfl | ⟨rfl, v, hv, ho⟩ | ⟨rfl, v, hv, ho⟩ | ⟨rfl, _⟩
    · refine op_plain (i := 0) h0 rfl (wp_emptyS ?_)
      have hb2 : Below w0.heap.size w0 (w.alloc (.cells #[] 9)) := hb.alloc hb.size _
      exact ⟨hb2, hb2, hf.put (by decide) _, .inr (.inl ⟨rfl, _, slot_same _ z204, own_empty w _ _ _ hb.size⟩), (g2.later ((Below.refl _ _).alloc (Nat.le_refl _) _)).put _ (by decide) (by decide) (by decide)⟩
    · obtain ⟨v', w', hr, ho', hb', hg', _⟩ := app_any elemS ho hb.size A1 n1 k1 (scells X) (by rw [scells_length, lX]; omega) (cX.later hb) (scells_one X) (by omega)
      refine op_plain (i := 4) h4 rfl (wp_append _ _ v (.slice A1 n1 k1) v' (slot_eval hv) (slot_eval (hf.slot (by decide) s207)) hr ?_)
      have hb2 := hb.trans hb'
      exact ⟨hb2, hb2, hf.put (by decide) _, .inr (.inr (.inl ⟨rfl, v', slot_same _ z208, by simpa using ho'⟩)), (g2.other ho (by decide) hg').put _ (by decide) (by decide) (by decide)⟩
    · obtain ⟨v', w', hr, ho', hb', hg', _⟩ := app_any elemS ho hb.size A2 n2 k2 (scells Y) (by rw [scells_length, lY]; omega) (cY.later hb) (scells_one Y) (by omega)
      refine op_plain (i := 9) h9 rfl (wp_append _ _ v (.slice A2 n2 k2) v' (slot_eval hv) (slot_eval (hf.slot (by decide) s212)) hr ?_)
      have hb2 := hb.trans hb'
      exact ⟨hb2, hb2, hf.put (by decide) _, .inr (.inr (.inr ⟨rfl, v', slot_same _ z213, ho'⟩)), (g2.other ho (by decide) hg').put _ (by decide) (by decide) (by decide)⟩
    · omega
  · rintro i j a w hi hj ⟨hb, hf, g1, g2⟩
    have z214 : 214 < a.tmps.size := by rw [hf.size, hsz]; decide
    have z218 : 218 < a.tmps.size := by rw [hf.size, hsz]; decide
    have z223 : 223 < a.tmps.size := by rw [hf.size, hsz]; decide
    rcases g2 with rfl | ⟨rfl, v, hv, ho⟩ | ⟨rfl, v, hv, ho⟩ | ⟨rfl, _⟩
    · refine op_plain (i := 10) h10 rfl (wp_emptyI ?_)
      have hb2 : Below w0.heap.size w0 (w.alloc (.cells #[] 3)) := hb.alloc hb.size _
      exact ⟨hb2, hb2, hf.put (by decide) _, (g1.later ((Below.refl _ _).alloc (Nat.le_refl _) _)).put _ (by decide) (by decide) (by decide), .inr (.inl ⟨rfl, _, slot_same _ z214, own_empty w _ _ _ hb.size⟩)⟩
    · obtain ⟨v', w', hr, ho', hb', hg', _⟩ := app_any elemI ho hb.size A3 n1 k3 (vcells U) (by rw [vcells_length, lU]; omega) (cU.later hb) (vcells_one U) (by omega)
      refine op_plain (i := 14) h14 rfl (wp_append _ _ v (.slice A3 n1 k3) v' (slot_eval hv) (slot_eval (hf.slot (by decide) s217)) hr ?_)
      have hb2 := hb.trans hb'
      exact ⟨hb2, hb2, hf.put (by decide) _, (g1.other ho (by decide) hg').put _ (by decide) (by decide) (by decide), .inr (.inr (.inl ⟨rfl, v', slot_same _ z218, by simpa using ho'⟩))⟩
    · obtain ⟨v', w', hr, ho', hb', hg', _⟩ := app_any elemI ho hb.size A4 n2 k4 (vcells Z) (by rw [vcells_length, lZ]; omega) (cZ.later hb) (vcells_one Z) (by omega)
      refine op_plain (i := 19) h19 rfl (wp_append _ _ v (.slice A4 n2 k4) v' (slot_eval hv) (slot_eval (hf.slot (by decide) s222)) hr ?_)
      have hb2 := hb.trans hb'
      exact ⟨hb2, hb2, hf.put (by decide) _, (g1.other ho (by decide) hg').put _ (by decide) (by decide) (by decide), .inr (.inr (.inr ⟨rfl, v', slot_same _ z223, ho'⟩))⟩
    · omega
  · rintro a w ⟨hb, hf, g1, g2⟩
    obtain ⟨v1, hv1, ho1⟩ : RowIn w0.heap.size 9 1 a w 213 (n1 + n2) (scells X ++ scells Y) := by
      rcases g1 with h | ⟨h, _⟩ | ⟨h, _⟩ | ⟨_, h⟩
      · omega
      · omega
      · omega
      · exact h
    obtain ⟨v2, hv2, ho2⟩ : RowIn w0.heap.size 3 1 a w 223 (n1 + n2) (vcells U ++ vcells Z) := by
      rcases g2 with h | ⟨h, _⟩ | ⟨h, _⟩ | ⟨_, h⟩
      · omega
      · omega
      · omega
      · exact h
    have z6 : 4 < a.tmps.size := by rw [hf.size, hsz]; decide
    refine wpAnyH_all r20 (by simp) fun i hi => ?_
    obtain rfl : i = 20 := by simpa using hi
    refine op_plain h20 rfl ?_
    have q1 : a.eval (.tmp 213) = v1 := slot_eval hv1
    unfold Oper.wp execOp
    simp only [q1]
    show _ ∧ _
    refine ⟨hb, ?_⟩
    refine wpAnyH_all r21 (by simp) fun i hi => ?_
    obtain rfl : i = 21 := by simpa using hi
    refine op_plain h21 rfl ?_
    have hv2' : (a.put (some 4) v1).tmps[223]? = some v2 := by rw [slot_put _ (by decide)]; exact hv2
    have q2 : (a.put (some 4) v1).eval (.tmp 223) = v2 := slot_eval hv2'
    unfold Oper.wp execOp
    simp only [q2]
    show _ ∧ _
    have hf2 := (hf.put (t := 4) (by decide) v1).put (t := 5) (by decide) v2
    have g6 : ((a.put (some 4) v1).put (some 5) v2).tmps[4]? = some v1 := by rw [slot_put _ (by decide)]; exact slot_same _ z6
    have g7 : ((a.put (some 4) v1).put (some 5) v2).tmps[5]? = some v2 := slot_same _ (by rw [(hf.put (by decide) v1).size, hsz]; decide)
    generalize (a.put (some 4) v1).put (some 5) v2 = a2 at *
    have hz2 : a2.tmps.size = 225 := hf2.size.trans hsz
    obtain ⟨x1, k1⟩ : ∃ x, a2.tmps[204]? = some x := ⟨_, Array.getElem?_eq_getElem (by rw [hz2]; omega)⟩
    obtain ⟨x2, k2⟩ : ∃ x, a2.tmps[208]? = some x := ⟨_, Array.getElem?_eq_getElem (by rw [hz2]; omega)⟩
    obtain ⟨x3, k3⟩ : ∃ x, a2.tmps[213]? = some x := ⟨_, Array.getElem?_eq_getElem (by rw [hz2]; omega)⟩
    obtain ⟨x4, k4⟩ : ∃ x, a2.tmps[214]? = some x := ⟨_, Array.getElem?_eq_getElem (by rw [hz2]; omega)⟩
    obtain ⟨x5, k5⟩ : ∃ x, a2.tmps[218]? = some x := ⟨_, Array.getElem?_eq_getElem (by rw [hz2]; omega)⟩
    obtain ⟨x6, k6⟩ : ∃ x, a2.tmps[223]? = some x := ⟨_, Array.getElem?_eq_getElem (by rw [hz2]; omega)⟩
    have hlit := Fr.eq (l := [(204, x1), (208, x2), (213, x3), (214, x4), (218, x5), (223, x6), (4, v1), (5, v2)]) rfl hf2.defers hf2.size hf2.out (fun p hp => by
      simp only [List.mem_cons, List.not_mem_nil, or_false] at hp
      rcases hp with rfl | rfl | rfl | rfl | rfl | rfl | rfl | rfl
      · exact k1
      · exact k2
      · exact k3
      · exact k4
      · exact k5
      · exact k6
      · exact g6
      · exact g7)
    simp only [List.foldl_cons, List.foldl_nil] at hlit
    rw [hlit]
    exact ⟨hb, wpAnyH_done rE (fin w v1 v2 x1 x2 x3 x4 x5 x6 ho1 ho2 hb) 0⟩

section
variable {a : Act} {w : World} {dst : Option Tmp} {ty : TypeId} {pos : String} {after : Array Edge} {K : Act → World → Prop} {Q : Exit → Act → World → Prop}
theorem wp_oneS (x : Nat) (s : ByteArray) (hx : a.tmps[x]? = some (.string s)) (h : K (a.put dst (.slice (some ⟨w.heap.size, 0, none⟩) 1 1)) (w.alloc (.cells #[.string s] 9))) : Oper.wp Try.prog { dst := dst, op := .buildSlice 26 1 #[(0, .tmp x)], type := ty, pos := pos, after := after, guard := none } a w K Q := by
  have hr : (execOp a.eval { dst := dst, op := .buildSlice 26 1 #[(0, .tmp x)], type := ty, pos := pos, after := after, guard := none }).run Try.prog w = .ok (.value (.slice (some ⟨w.heap.size, 0, none⟩) 1 1)) (w.alloc (.cells #[.string s] 9)) := by
    unfold execOp
    simp [hx, go_sem]
  unfold Oper.wp
  rw [hr]
  exact h
end
def lstM (i j : Nat) : Array Bool := #[true, true, true, decide (1 ≤ i), decide (2 ≤ i), true, true, true, decide (1 ≤ j), decide (2 ≤ j), false, false]
def cM (i : Nat) : Nat := if i = 0 then 3 else 4
def dM (i : Nat) : Nat := if i = 0 then 8 else 9
def gridM (ops : Array Oper) : Bool := (List.range 3).all fun i => (List.range 3).all fun j => (i == 2 && j == 2) || (!(Region.ready .any ops (lstM i j)).isEmpty && (Region.ready .any ops (lstM i j)).all fun x => (decide (i < 2) && x == cM i) || (decide (j < 2) && x == dM j))
theorem lstM_c : ∀ i, i < 2 → ∀ j, j < 3 → (lstM i j).setIfInBounds (cM i) true = lstM (i + 1) j := by decide
theorem lstM_d : ∀ i, i < 3 → ∀ j, j < 2 → (lstM i j).setIfInBounds (dM j) true = lstM i (j + 1) := by decide
set_option maxHeartbeats 1000000 in
theorem more_rows {ops : Array Oper} {Q : Exit → Act → World → Prop} (b : Act) (w0 : World) (hsz : b.tmps.size = 225)
    (o3 : ∃ po af, ops[3]? = some { dst := some 189, op := .buildSlice 26 1 #[(0, .tmp 188)], type := 26, pos := po, after := af, guard := none })
    (o4 : ∃ po af, ops[4]? = some { dst := some 190, op := .call { callee := .builtin .append, args := #[.tmp 186, .tmp 189], argTypes := #[26, 26] }, type := 26, pos := po, after := af, guard := none })
    (o8 : ∃ po af, ops[8]? = some { dst := some 194, op := .buildSlice 27 1 #[(0, .tmp 193)], type := 27, pos := po, after := af, guard := none })
    (o9 : ∃ po af, ops[9]? = some { dst := some 195, op := .call { callee := .builtin .append, args := #[.tmp 191, .tmp 194], argTypes := #[27, 27] }, type := 27, pos := po, after := af, guard := none })
    (o10 : ∃ ty po af, ops[10]? = some { dst := some 4, op := .assign (.tmp 190), type := ty, pos := po, after := af, guard := none })
    (o11 : ∃ ty po af, ops[11]? = some { dst := some 5, op := .assign (.tmp 195), type := ty, pos := po, after := af, guard := none })
    (hg : gridM ops = true) (r10 : Region.ready .any ops (lstM 2 2) = [10]) (r11 : Region.ready .any ops ((lstM 2 2).setIfInBounds 10 true) = [11]) (rE : Region.ready .any ops (((lstM 2 2).setIfInBounds 10 true).setIfInBounds 11 true) = [])
    (H n : Nat) (s : ByteArray) (V : Int) (v1 v2 : Value) (xs ys : List Value) (hn : n ≤ 1000)
    (s186 : b.tmps[186]? = some v1) (s188 : b.tmps[188]? = some (.string s)) (s191 : b.tmps[191]? = some v2) (s193 : b.tmps[193]? = some (.int .i64 V))
    (h1 : w0.ownsRow H 9 1 v1 n xs) (h2 : w0.ownsRow H 3 1 v2 n ys) (hH : H ≤ w0.heap.size)
    (fin : ∀ W u1 u2 x1 x2 x3 x4, W.ownsRow H 9 1 u1 (n + 1) (xs ++ [.string s]) → W.ownsRow H 3 1 u2 (n + 1) (ys ++ [.int .i64 V]) → Keeps (fun b => v1.ownBlock = some b ∨ v2.ownBlock = some b) w0 W →
      (∀ b, u1.ownBlock = some b → v1.ownBlock = some b ∨ w0.heap.size ≤ b) → (∀ b, u2.ownBlock = some b → v2.ownBlock = some b ∨ w0.heap.size ≤ b) → Q .normal ((((((b.put (some 189) x1).put (some 190) x2).put (some 194) x3).put (some 195) x4).put (some 4) u1).put (some 5) u2) W)
    (W0 : World) (hW0 : Below w0.heap.size w0 W0) :
    wpAnyH Try.prog .any ops Q (fun W => Keeps (fun b => v1.ownBlock = some b ∨ v2.ownBlock = some b) w0 W) 6 (lstM 0 0) b W0 := by
  obtain ⟨p3, f3, h3⟩ := o3
  obtain ⟨p4, f4, h4⟩ := o4
  obtain ⟨p8, f8, h8⟩ := o8
  obtain ⟨p9, f9, h9⟩ := o9
  obtain ⟨t10, p10, f10, h10⟩ := o10
  obtain ⟨t11, p11, f11, h11⟩ := o11
  have lt1 : ∀ b, v1.ownBlock = some b → b < w0.heap.size := fun b hb => (own_lt h1 b hb).2
  have lt2 : ∀ b, v2.ownBlock = some b → b < w0.heap.size := fun b hb => (own_lt h2 b hb).2
  have hgr : ∀ i j, i ≤ 2 → j ≤ 2 → ¬ (i = 2 ∧ j = 2) → Region.ready .any ops (lstM i j) ≠ [] ∧ ∀ x ∈ Region.ready .any ops (lstM i j), (i < 2 ∧ x = cM i) ∨ (j < 2 ∧ x = dM j) := by
    intro i j hi hj hne
    have h1 := List.all_eq_true.1 (List.all_eq_true.1 hg i (List.mem_range.2 (by omega))) j (List.mem_range.2 (by omega))
    rw [Bool.or_eq_true] at h1
    rcases h1 with h1 | h1
    · simp at h1; exact absurd h1 hne
    · rw [Bool.and_eq_true] at h1
      refine ⟨fun e => by rw [e] at h1; simp at h1, fun x hx => ?_⟩
      have h2 := List.all_eq_true.1 h1.2 x hx
      simp only [Bool.or_eq_true, Bool.and_eq_true, decide_eq_true_eq, beq_iff_eq] at h2
      exact h2
  refine grid2 (P := Try.prog) (Q := Q) (S := fun W => Keeps (fun b => v1.ownBlock = some b ∨ v2.ownBlock = some b) w0 W) 2 2 2 cM dM lstM
    (fun i j a W => Keeps (fun b => v1.ownBlock = some b ∨ v2.ownBlock = some b) w0 W ∧ Fr [189, 190, 194, 195, 4, 5] b a ∧ More H w0.heap.size 9 1 189 190 n v1 xs [.string s] i a W ∧ More H w0.heap.size 3 1 194 195 n v2 ys [.int .i64 V] j a W)
    (fun i j hi hj => lstM_c i hi j (by omega)) (fun i j hi hj => lstM_d i (by omega) j hj) hgr ?_ ?_ ?_ 4 0 0 b W0 rfl (by omega) (by omega) ⟨Keeps.of_below hW0 _, Fr.refl _ _, .inl ⟨rfl, own_later h1 hW0⟩, .inl ⟨rfl, own_later h2 hW0⟩⟩
  · rintro i j a w hi hj ⟨hb, hf, g1, g2⟩
    have z189 : 189 < a.tmps.size := by rw [hf.size, hsz]; decide
    have z190 : 190 < a.tmps.size := by rw [hf.size, hsz]; decide
    rcases g1 with ⟨rfl, ho⟩ | ⟨rfl, ho, g, q1, q2, q3, q4⟩ | ⟨rfl, _⟩
    · refine op_plain (i := 3) h3 rfl (wp_oneS 188 s (hf.slot (by decide) s188) ?_)
      have hb2 := hb.alloc (.cells #[.string s] 9)
      have hal : Below w.heap.size w (w.alloc (.cells #[.string s] 9)) := (Below.refl _ _).alloc (Nat.le_refl _) _
      refine ⟨hb2, hb2, hf.put (by decide) _, .inr (.inl ⟨rfl, own_later ho hal, w.heap.size, slot_same _ z189, hb.size, by simp, fun j u hu => ?_⟩), (g2.later hal).put _ (by decide) (by decide)⟩
      rw [Nat.zero_add, World.cell?_alloc_mark]
      simpa using hu
    · obtain ⟨v', w', hr, ho', hb', hg', hnew⟩ := app_any elemS ho (Nat.le_trans hH hb.size) (some ⟨g, 0, none⟩) 1 1 [.string s] rfl (.inr ⟨g, 0, rfl, q4⟩) (by simp [Value.oneCell']) (by omega)
      refine op_plain (i := 4) h4 rfl (wp_append _ _ v1 (.slice (some ⟨g, 0, none⟩) 1 1) v' (slot_eval (hf.slot (by decide) s186)) (slot_eval q1) hr ?_)
      have hb2 := hb.grown hg' fun b hb9 => .inl (.inl hb9)
      refine ⟨hb2, hb2, hf.put (by decide) _, .inr (.inr ⟨rfl, v', slot_same _ z190, ho', fun b hb9 => ?_⟩), (g2.other ho (by decide) hg' lt1).put _ (by decide) (by decide)⟩
      rcases hnew with h | h
      · exact .inl (by rw [← h]; exact hb9)
      · right
        rw [h] at hb9
        have := hb.size
        simp at hb9
        omega
    · omega
  · rintro i j a w hi hj ⟨hb, hf, g1, g2⟩
    have z194 : 194 < a.tmps.size := by rw [hf.size, hsz]; decide
    have z195 : 195 < a.tmps.size := by rw [hf.size, hsz]; decide
    rcases g2 with ⟨rfl, ho⟩ | ⟨rfl, ho, g, q1, q2, q3, q4⟩ | ⟨rfl, _⟩
    · refine op_plain (i := 8) h8 rfl (wp_oneI 193 V (hf.slot (by decide) s193) ?_)
      have hb2 := hb.alloc (.cells #[.int .i64 V] 3)
      have hal : Below w.heap.size w (w.alloc (.cells #[.int .i64 V] 3)) := (Below.refl _ _).alloc (Nat.le_refl _) _
      refine ⟨hb2, hb2, hf.put (by decide) _, (g1.later hal).put _ (by decide) (by decide), .inr (.inl ⟨rfl, own_later ho hal, w.heap.size, slot_same _ z194, hb.size, by simp, fun j u hu => ?_⟩)⟩
      rw [Nat.zero_add, World.cell?_alloc_mark]
      simpa using hu
    · obtain ⟨v', w', hr, ho', hb', hg', hnew⟩ := app_any elemI ho (Nat.le_trans hH hb.size) (some ⟨g, 0, none⟩) 1 1 [.int .i64 V] rfl (.inr ⟨g, 0, rfl, q4⟩) (by simp [Value.oneCell']) (by omega)
      refine op_plain (i := 9) h9 rfl (wp_append _ _ v2 (.slice (some ⟨g, 0, none⟩) 1 1) v' (slot_eval (hf.slot (by decide) s191)) (slot_eval q1) hr ?_)
      have hb2 := hb.grown hg' fun b hb9 => .inl (.inr hb9)
      refine ⟨hb2, hb2, hf.put (by decide) _, (g1.other ho (by decide) hg' lt2).put _ (by decide) (by decide), .inr (.inr ⟨rfl, v', slot_same _ z195, ho', fun b hb9 => ?_⟩)⟩
      rcases hnew with h | h
      · exact .inl (by rw [← h]; exact hb9)
      · right
        rw [h] at hb9
        have := hb.size
        simp at hb9
        omega
    · omega
  · rintro a w ⟨hb, hf, g1, g2⟩
    obtain ⟨u1, hu1, ho1, hw1⟩ : ∃ v', a.tmps[190]? = some v' ∧ w.ownsRow H 9 1 v' (n + 1) (xs ++ [.string s]) ∧ ∀ b, v'.ownBlock = some b → v1.ownBlock = some b ∨ w0.heap.size ≤ b := by
      rcases g1 with ⟨h, _⟩ | ⟨h, _⟩ | ⟨_, h⟩
      · omega
      · omega
      · exact h
    obtain ⟨u2, hu2, ho2, hw2⟩ : ∃ v', a.tmps[195]? = some v' ∧ w.ownsRow H 3 1 v' (n + 1) (ys ++ [.int .i64 V]) ∧ ∀ b, v'.ownBlock = some b → v2.ownBlock = some b ∨ w0.heap.size ≤ b := by
      rcases g2 with ⟨h, _⟩ | ⟨h, _⟩ | ⟨_, h⟩
      · omega
      · omega
      · exact h
    have z6 : 4 < a.tmps.size := by rw [hf.size, hsz]; decide
    refine wpAnyH_all r10 (by simp) fun i hi => ?_
    obtain rfl : i = 10 := by simpa using hi
    refine op_plain h10 rfl ?_
    have q1 : a.eval (.tmp 190) = u1 := slot_eval hu1
    unfold Oper.wp execOp
    simp only [q1]
    show _ ∧ _
    refine ⟨hb, ?_⟩
    refine wpAnyH_all r11 (by simp) fun i hi => ?_
    obtain rfl : i = 11 := by simpa using hi
    refine op_plain h11 rfl ?_
    have hv2' : (a.put (some 4) u1).tmps[195]? = some u2 := by rw [slot_put _ (by decide)]; exact hu2
    have q2 : (a.put (some 4) u1).eval (.tmp 195) = u2 := slot_eval hv2'
    unfold Oper.wp execOp
    simp only [q2]
    show _ ∧ _
    have hf2 := (hf.put (t := 4) (by decide) u1).put (t := 5) (by decide) u2
    have g6 : ((a.put (some 4) u1).put (some 5) u2).tmps[4]? = some u1 := by rw [slot_put _ (by decide)]; exact slot_same _ z6
    have g7 : ((a.put (some 4) u1).put (some 5) u2).tmps[5]? = some u2 := slot_same _ (by rw [(hf.put (by decide) u1).size, hsz]; decide)
    generalize (a.put (some 4) u1).put (some 5) u2 = a2 at *
    have hz2 : a2.tmps.size = 225 := hf2.size.trans hsz
    obtain ⟨x1, k1⟩ : ∃ x, a2.tmps[189]? = some x := ⟨_, Array.getElem?_eq_getElem (by rw [hz2]; omega)⟩
    obtain ⟨x2, k2⟩ : ∃ x, a2.tmps[190]? = some x := ⟨_, Array.getElem?_eq_getElem (by rw [hz2]; omega)⟩
    obtain ⟨x3, k3⟩ : ∃ x, a2.tmps[194]? = some x := ⟨_, Array.getElem?_eq_getElem (by rw [hz2]; omega)⟩
    obtain ⟨x4, k4⟩ : ∃ x, a2.tmps[195]? = some x := ⟨_, Array.getElem?_eq_getElem (by rw [hz2]; omega)⟩
    have hlit := Fr.eq (l := [(189, x1), (190, x2), (194, x3), (195, x4), (4, u1), (5, u2)]) rfl hf2.defers hf2.size hf2.out (fun p hp => by
      simp only [List.mem_cons, List.not_mem_nil, or_false] at hp
      rcases hp with rfl | rfl | rfl | rfl | rfl | rfl
      · exact k1
      · exact k2
      · exact k3
      · exact k4
      · exact g6
      · exact g7)
    simp only [List.foldl_cons, List.foldl_nil] at hlit
    rw [hlit]
    exact ⟨hb, wpAnyH_done rE (fin w u1 u2 x1 x2 x3 x4 ho1 ho2 hb hw1 hw2) 0⟩
end Go.Proofs.Ythbgalknhodgnaa
