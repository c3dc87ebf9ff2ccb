/- 'list, vals = append(list, a.P), append(vals, a.V)': both rows, in any order. -/
import Derived.Test.YtfecknbneonidaaTpG
namespace Go.Proofs.Ytfecknbneonidaa
open Go.RowKit
set_option maxRecDepth 100000

/-- A chain: the row; one element beside it; the row with it. -/
def More (H top e size s1 s2 n : Nat) (v : Value) (xs new : List Value) (i : Nat) (a : Act) (w : World) : Prop :=
  (i = 0 ∧ w.ownsRow H e size v n xs) ∨ (i = 1 ∧ w.ownsRow H e size v n xs ∧ ∃ g, a.tmps[s1]? = some (.slice (some ⟨g, 0, none⟩) 1 1) ∧ top ≤ g ∧ g < w.heap.size ∧ ∀ j u, new[j]? = some u → w.cell? ⟨g, 0 + j, none⟩ = some u) ∨
  (i = 2 ∧ ∃ v', a.tmps[s2]? = some v' ∧ w.ownsRow H e size v' (n + 1) (xs ++ new) ∧ ∀ b, v'.ownBlock = some b → v.ownBlock = some b ∨ top ≤ b)
section
variable {H top e size s1 s2 n : Nat} {v : Value} {xs new : List Value} {i : Nat} {a : Act} {w w' : World}
theorem More.put (h : More H top e size s1 s2 n v xs new i a w) {t : Nat} (u : Value) (h1 : t ≠ s1) (h2 : t ≠ s2) : More H top e size s1 s2 n v xs new i (a.put (some t) u) w := by
  rcases h with ⟨h, k⟩ | ⟨h, k, g, q1, q2, q3⟩ | ⟨h, v', q1, q2, q3⟩
  · exact .inl ⟨h, k⟩
  · exact .inr (.inl ⟨h, k, g, by rw [slot_put u h1]; exact q1, q2, q3⟩)
  · exact .inr (.inr ⟨h, v', by rw [slot_put u h2]; exact q1, q2, q3⟩)
theorem More.later (h : More H top e size s1 s2 n v xs new i a w) (hb : Below w.heap.size w w') : More H top e size s1 s2 n v xs new i a w' := by
  rcases h with ⟨h, k⟩ | ⟨h, k, g, q1, q2, q3, q4⟩ | ⟨h, v', q1, q2, q3⟩
  · exact .inl ⟨h, own_later k hb⟩
  · exact .inr (.inl ⟨h, own_later k hb, g, q1, q2, Nat.lt_of_lt_of_le q3 hb.size, fun j u hu => by rw [hb.cell (p := ⟨g, 0 + j, none⟩) q3]; exact q4 j u hu⟩)
  · exact .inr (.inr ⟨h, v', q1, own_later q2 hb, q3⟩)
theorem More.other {H' e' size' n' : Nat} {xs' : List Value} {v' : Value} (h : More H top e size s1 s2 n v xs new i a w) (ho : w.ownsRow H' e' size' v' n' xs') (hne : e ≠ e') (hg : w.grownBy w' v'.ownBlock) (ht : ∀ b, v'.ownBlock = some b → b < top) : More H top e size s1 s2 n v xs new i a w' := by
  have keep : ∀ {u : Value} {m : Nat} {zs : List Value}, w.ownsRow H e size u m zs → w'.ownsRow H e size u m zs := fun {u m zs} hu => hu.kept hg (by
    cases e9 : u.ownBlock with
    | none => exact .inl rfl
    | some b => exact .inr fun e8 => rows_apart hu ho hne b e9 e8.symm)
  rcases h with ⟨h, k⟩ | ⟨h, k, g, q1, q2, q3, q4⟩ | ⟨h, v9, q1, q2, q3⟩
  · exact .inl ⟨h, keep k⟩
  · refine .inr (.inl ⟨h, keep k, g, q1, q2, Nat.lt_of_lt_of_le q3 hg.size, fun j u hu => ?_⟩)
    rw [World.cell?_of_block (w := w) (hg.block g q3 fun e9 => by have := ht g e9.symm; omega)]
    exact q4 j u hu
  · exact .inr (.inr ⟨h, v9, q1, keep q2, q3⟩)
end
section
variable {a : Act} {w : World} {dst : Option Tmp} {ty : TypeId} {pos : String} {after : Array Edge} {K : Act → World → Prop} {Q : Exit → Act → World → Prop}
theorem wp_oneP (x : Nat) (A : Nat) (L : Int) (hx : a.tmps[x]? = some (.agg #[.int .u32 (A : Int), .int .i64 L])) (h : K (a.put dst (.slice (some ⟨w.heap.size, 0, none⟩) 1 1)) (w.alloc (.cells #[.int .u32 (A : Int), .int .i64 L] 31))) : Oper.wp Try.prog { dst := dst, op := .buildSlice 27 1 #[(0, .tmp x)], type := ty, pos := pos, after := after, guard := none } a w K Q := by
  have hr : (execOp a.eval { dst := dst, op := .buildSlice 27 1 #[(0, .tmp x)], type := ty, pos := pos, after := after, guard := none }).run Try.prog w = .ok (.value (.slice (some ⟨w.heap.size, 0, none⟩) 1 1)) (w.alloc (.cells #[.int .u32 (A : Int), .int .i64 L] 31)) := by
    unfold execOp
    simp [hx, go_sem]
  unfold Oper.wp
  rw [hr]
  exact h
theorem wp_oneI (x : Nat) (V : Int) (hx : a.tmps[x]? = some (.int .i64 V)) (h : K (a.put dst (.slice (some ⟨w.heap.size, 0, none⟩) 1 1)) (w.alloc (.cells #[.int .i64 V] 3))) : Oper.wp Try.prog { dst := dst, op := .buildSlice 28 1 #[(0, .tmp x)], type := ty, pos := pos, after := after, guard := none } a w K Q := by
  have hr : (execOp a.eval { dst := dst, op := .buildSlice 28 1 #[(0, .tmp x)], type := ty, pos := pos, after := after, guard := none }).run Try.prog w = .ok (.value (.slice (some ⟨w.heap.size, 0, none⟩) 1 1)) (w.alloc (.cells #[.int .i64 V] 3)) := by
    unfold execOp
    simp [hx, go_sem]
  unfold Oper.wp
  rw [hr]
  exact h
end
def lstM (i j : Nat) : Array Bool := #[true, true, true, decide (1 ≤ i), decide (2 ≤ i), true, true, true, decide (1 ≤ j), decide (2 ≤ j), false, false]
def cM (i : Nat) : Nat := if i = 0 then 3 else 4
def dM (i : Nat) : Nat := if i = 0 then 8 else 9
def gridM (ops : Array Oper) : Bool := (List.range 3).all fun i => (List.range 3).all fun j => (i == 2 && j == 2) || (!(Region.ready .any ops (lstM i j)).isEmpty && (Region.ready .any ops (lstM i j)).all fun x => (decide (i < 2) && x == cM i) || (decide (j < 2) && x == dM j))
theorem lstM_c : ∀ i, i < 2 → ∀ j, j < 3 → (lstM i j).setIfInBounds (cM i) true = lstM (i + 1) j := by decide
theorem lstM_d : ∀ i, i < 3 → ∀ j, j < 2 → (lstM i j).setIfInBounds (dM j) true = lstM i (j + 1) := by decide
set_option maxHeartbeats 1000000 in
theorem more_rows {ops : Array Oper} {Q : Exit → Act → World → Prop} (b : Act) (w0 : World) (hsz : b.tmps.size = 290)
    (o3 : ∃ po af, ops[3]? = some { dst := some 139, op := .buildSlice 27 1 #[(0, .tmp 138)], type := 27, pos := po, after := af, guard := none })
    (o4 : ∃ po af, ops[4]? = some { dst := some 140, op := .call { callee := .builtin .append, args := #[.tmp 136, .tmp 139], argTypes := #[27, 27] }, type := 27, pos := po, after := af, guard := none })
    (o8 : ∃ po af, ops[8]? = some { dst := some 144, op := .buildSlice 28 1 #[(0, .tmp 143)], type := 28, pos := po, after := af, guard := none })
    (o9 : ∃ po af, ops[9]? = some { dst := some 145, op := .call { callee := .builtin .append, args := #[.tmp 141, .tmp 144], argTypes := #[28, 28] }, type := 28, pos := po, after := af, guard := none })
    (o10 : ∃ ty po af, ops[10]? = some { dst := some 6, op := .assign (.tmp 140), type := ty, pos := po, after := af, guard := none })
    (o11 : ∃ ty po af, ops[11]? = some { dst := some 7, op := .assign (.tmp 145), type := ty, pos := po, after := af, guard := none })
    (hg : gridM ops = true) (r10 : Region.ready .any ops (lstM 2 2) = [10]) (r11 : Region.ready .any ops ((lstM 2 2).setIfInBounds 10 true) = [11]) (rE : Region.ready .any ops (((lstM 2 2).setIfInBounds 10 true).setIfInBounds 11 true) = [])
    (H n A : Nat) (L V : Int) (v1 v2 : Value) (xs ys : List Value) (hn : n ≤ 1000)
    (s136 : b.tmps[136]? = some v1) (s138 : b.tmps[138]? = some (.agg #[.int .u32 (A : Int), .int .i64 L])) (s141 : b.tmps[141]? = some v2) (s143 : b.tmps[143]? = some (.int .i64 V))
    (h1 : w0.ownsRow H 31 2 v1 n xs) (h2 : w0.ownsRow H 3 1 v2 n ys) (hH : H ≤ w0.heap.size)
    (fin : ∀ W u1 u2 x1 x2 x3 x4, W.ownsRow H 31 2 u1 (n + 1) (xs ++ [.int .u32 (A : Int), .int .i64 L]) → W.ownsRow H 3 1 u2 (n + 1) (ys ++ [.int .i64 V]) → Keeps (fun b => v1.ownBlock = some b ∨ v2.ownBlock = some b) w0 W →
      (∀ b, u1.ownBlock = some b → v1.ownBlock = some b ∨ w0.heap.size ≤ b) → (∀ b, u2.ownBlock = some b → v2.ownBlock = some b ∨ w0.heap.size ≤ b) → Q .normal ((((((b.put (some 139) x1).put (some 140) x2).put (some 144) x3).put (some 145) x4).put (some 6) u1).put (some 7) u2) W)
    (W0 : World) (hW0 : Below w0.heap.size w0 W0) :
    wpAnyH Try.prog .any ops Q (fun W => Keeps (fun b => v1.ownBlock = some b ∨ v2.ownBlock = some b) w0 W) 6 (lstM 0 0) b W0 := by
  obtain ⟨p3, f3, h3⟩ := o3
  obtain ⟨p4, f4, h4⟩ := o4
  obtain ⟨p8, f8, h8⟩ := o8
  obtain ⟨p9, f9, h9⟩ := o9
  obtain ⟨t10, p10, f10, h10⟩ := o10
  obtain ⟨t11, p11, f11, h11⟩ := o11
  have lt1 : ∀ b, v1.ownBlock = some b → b < w0.heap.size := fun b hb => (own_lt h1 b hb).2
  have lt2 : ∀ b, v2.ownBlock = some b → b < w0.heap.size := fun b hb => (own_lt h2 b hb).2
  have hgr : ∀ i j, i ≤ 2 → j ≤ 2 → ¬ (i = 2 ∧ j = 2) → Region.ready .any ops (lstM i j) ≠ [] ∧ ∀ x ∈ Region.ready .any ops (lstM i j), (i < 2 ∧ x = cM i) ∨ (j < 2 ∧ x = dM j) := by
    intro i j hi hj hne
    have h1 := List.all_eq_true.1 (List.all_eq_true.1 hg i (List.mem_range.2 (by omega))) j (List.mem_range.2 (by omega))
    rw [Bool.or_eq_true] at h1
    rcases h1 with h1 | h1
    · simp at h1; exact absurd h1 hne
    · rw [Bool.and_eq_true] at h1
      refine ⟨fun e => by rw [e] at h1; simp at h1, fun x hx => ?_⟩
      have h2 := List.all_eq_true.1 h1.2 x hx
      simp only [Bool.or_eq_true, Bool.and_eq_true, decide_eq_true_eq, beq_iff_eq] at h2
      exact h2
  refine grid2 (P := Try.prog) (Q := Q) (S := fun W => Keeps (fun b => v1.ownBlock = some b ∨ v2.ownBlock = some b) w0 W) 2 2 2 cM dM lstM
    (fun i j a W => Keeps (fun b => v1.ownBlock = some b ∨ v2.ownBlock = some b) w0 W ∧ Fr [139, 140, 144, 145, 6, 7] b a ∧ More H w0.heap.size 31 2 139 140 n v1 xs [.int .u32 (A : Int), .int .i64 L] i a W ∧ More H w0.heap.size 3 1 144 145 n v2 ys [.int .i64 V] j a W)
    (fun i j hi hj => lstM_c i hi j (by omega)) (fun i j hi hj => lstM_d i (by omega) j hj) hgr ?_ ?_ ?_ 4 0 0 b W0 rfl (by omega) (by omega) ⟨Keeps.of_below hW0 _, Fr.refl _ _, .inl ⟨rfl, own_later h1 hW0⟩, .inl ⟨rfl, own_later h2 hW0⟩⟩
  · rintro i j a w hi hj ⟨hb, hf, g1, g2⟩
    have z139 : 139 < a.tmps.size := by rw [hf.size, hsz]; decide
    have z140 : 140 < a.tmps.size := by rw [hf.size, hsz]; decide
    rcases g1 with ⟨rfl, ho⟩ | ⟨rfl, ho, g, q1, q2, q3, q4⟩ | ⟨rfl, _⟩
    · refine op_plain (i := 3) h3 rfl (wp_oneP 138 A L (hf.slot (by decide) s138) ?_)
      have hb2 := hb.alloc (.cells #[.int .u32 (A : Int), .int .i64 L] 31)
      have hal : Below w.heap.size w (w.alloc (.cells #[.int .u32 (A : Int), .int .i64 L] 31)) := (Below.refl _ _).alloc (Nat.le_refl _) _
      refine ⟨hb2, hb2, hf.put (by decide) _, .inr (.inl ⟨rfl, own_later ho hal, w.heap.size, slot_same _ z139, hb.size, by simp, fun j u hu => ?_⟩), (g2.later hal).put _ (by decide) (by decide)⟩
      rw [Nat.zero_add, World.cell?_alloc_mark]
      simpa using hu
    · obtain ⟨v', w', hr, ho', hb', hg', hnew⟩ := app_any elemPfx ho (Nat.le_trans hH hb.size) (some ⟨g, 0, none⟩) 1 1 [.int .u32 (A : Int), .int .i64 L] rfl (.inr ⟨g, 0, rfl, q4⟩) (by simp [Value.oneCell']) (by omega)
      refine op_plain (i := 4) h4 rfl (wp_append _ _ v1 (.slice (some ⟨g, 0, none⟩) 1 1) v' (slot_eval (hf.slot (by decide) s136)) (slot_eval q1) hr ?_)
      have hb2 := hb.grown hg' fun b hb9 => .inl (.inl hb9)
      refine ⟨hb2, hb2, hf.put (by decide) _, .inr (.inr ⟨rfl, v', slot_same _ z140, ho', fun b hb9 => ?_⟩), (g2.other ho (by decide) hg' lt1).put _ (by decide) (by decide)⟩
      rcases hnew with h | h
      · exact .inl (by rw [← h]; exact hb9)
      · right
        rw [h] at hb9
        have := hb.size
        simp at hb9
        omega
    · omega
  · rintro i j a w hi hj ⟨hb, hf, g1, g2⟩
    have z144 : 144 < a.tmps.size := by rw [hf.size, hsz]; decide
    have z145 : 145 < a.tmps.size := by rw [hf.size, hsz]; decide
    rcases g2 with ⟨rfl, ho⟩ | ⟨rfl, ho, g, q1, q2, q3, q4⟩ | ⟨rfl, _⟩
    · refine op_plain (i := 8) h8 rfl (wp_oneI 143 V (hf.slot (by decide) s143) ?_)
      have hb2 := hb.alloc (.cells #[.int .i64 V] 3)
      have hal : Below w.heap.size w (w.alloc (.cells #[.int .i64 V] 3)) := (Below.refl _ _).alloc (Nat.le_refl _) _
      refine ⟨hb2, hb2, hf.put (by decide) _, (g1.later hal).put _ (by decide) (by decide), .inr (.inl ⟨rfl, own_later ho hal, w.heap.size, slot_same _ z144, hb.size, by simp, fun j u hu => ?_⟩)⟩
      rw [Nat.zero_add, World.cell?_alloc_mark]
      simpa using hu
    · obtain ⟨v', w', hr, ho', hb', hg', hnew⟩ := app_any elemI ho (Nat.le_trans hH hb.size) (some ⟨g, 0, none⟩) 1 1 [.int .i64 V] rfl (.inr ⟨g, 0, rfl, q4⟩) (by simp [Value.oneCell']) (by omega)
      refine op_plain (i := 9) h9 rfl (wp_append _ _ v2 (.slice (some ⟨g, 0, none⟩) 1 1) v' (slot_eval (hf.slot (by decide) s141)) (slot_eval q1) hr ?_)
      have hb2 := hb.grown hg' fun b hb9 => .inl (.inr hb9)
      refine ⟨hb2, hb2, hf.put (by decide) _, (g1.other ho (by decide) hg' lt2).put _ (by decide) (by decide), .inr (.inr ⟨rfl, v', slot_same _ z145, ho', fun b hb9 => ?_⟩)⟩
      rcases hnew with h | h
      · exact .inl (by rw [← h]; exact hb9)
      · right
        rw [h] at hb9
        have := hb.size
        simp at hb9
        omega
    · omega
  · rintro a w ⟨hb, hf, g1, g2⟩
    obtain ⟨u1, hu1, ho1, hw1⟩ : ∃ v', a.tmps[140]? = some v' ∧ w.ownsRow H 31 2 v' (n + 1) (xs ++ [.int .u32 (A : Int), .int .i64 L]) ∧ ∀ b, v'.ownBlock = some b → v1.ownBlock = some b ∨ w0.heap.size ≤ b := by
      rcases g1 with ⟨h, _⟩ | ⟨h, _⟩ | ⟨_, h⟩
      · omega
      · omega
      · exact h
    obtain ⟨u2, hu2, ho2, hw2⟩ : ∃ v', a.tmps[145]? = some v' ∧ w.ownsRow H 3 1 v' (n + 1) (ys ++ [.int .i64 V]) ∧ ∀ b, v'.ownBlock = some b → v2.ownBlock = some b ∨ w0.heap.size ≤ b := by
      rcases g2 with ⟨h, _⟩ | ⟨h, _⟩ | ⟨_, h⟩
      · omega
      · omega
      · exact h
    have z6 : 6 < a.tmps.size := by rw [hf.size, hsz]; decide
    refine wpAnyH_all r10 (by simp) fun i hi => ?_
    obtain rfl : i = 10 := by simpa using hi
    refine op_plain h10 rfl ?_
    have q1 : a.eval (.tmp 140) = u1 := slot_eval hu1
    unfold Oper.wp execOp
    simp only [q1]
    show _ ∧ _
    refine ⟨hb, ?_⟩
    refine wpAnyH_all r11 (by simp) fun i hi => ?_
    obtain rfl : i = 11 := by simpa using hi
    refine op_plain h11 rfl ?_
    have hv2' : (a.put (some 6) u1).tmps[145]? = some u2 := by rw [slot_put _ (by decide)]; exact hu2
    have q2 : (a.put (some 6) u1).eval (.tmp 145) = u2 := slot_eval hv2'
    unfold Oper.wp execOp
    simp only [q2]
    show _ ∧ _
    have hf2 := (hf.put (t := 6) (by decide) u1).put (t := 7) (by decide) u2
    have g6 : ((a.put (some 6) u1).put (some 7) u2).tmps[6]? = some u1 := by rw [slot_put _ (by decide)]; exact slot_same _ z6
    have g7 : ((a.put (some 6) u1).put (some 7) u2).tmps[7]? = some u2 := slot_same _ (by rw [(hf.put (by decide) u1).size, hsz]; decide)
    generalize (a.put (some 6) u1).put (some 7) u2 = a2 at *
    have hz2 : a2.tmps.size = 290 := hf2.size.trans hsz
    obtain ⟨x1, k1⟩ : ∃ x, a2.tmps[139]? = some x := ⟨_, Array.getElem?_eq_getElem (by rw [hz2]; omega)⟩
    obtain ⟨x2, k2⟩ : ∃ x, a2.tmps[140]? = some x := ⟨_, Array.getElem?_eq_getElem (by rw [hz2]; omega)⟩
    obtain ⟨x3, k3⟩ : ∃ x, a2.tmps[144]? = some x := ⟨_, Array.getElem?_eq_getElem (by rw [hz2]; omega)⟩
    obtain ⟨x4, k4⟩ : ∃ x, a2.tmps[145]? = some x := ⟨_, Array.getElem?_eq_getElem (by rw [hz2]; omega)⟩
    have hlit := Fr.eq (l := [(139, x1), (140, x2), (144, x3), (145, x4), (6, u1), (7, u2)]) rfl hf2.defers hf2.size hf2.out (fun p hp => by
      simp only [List.mem_cons, List.not_mem_nil, or_false] at hp
      rcases hp with rfl | rfl | rfl | rfl | rfl | rfl
      · exact k1
      · exact k2
      · exact k3
      · exact k4
      · exact g6
      · exact g7)
    simp only [List.foldl_cons, List.foldl_nil] at hlit
    rw [hlit]
    exact ⟨hb, wpAnyH_done rE (fin w u1 u2 x1 x2 x3 x4 ho1 ho2 hb hw1 hw2) 0⟩
end Go.Proofs.Ytfecknbneonidaa
