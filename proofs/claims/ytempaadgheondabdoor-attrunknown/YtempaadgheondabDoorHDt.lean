/- '.., m := attr.Decode(append(append([]byte{}, x...), ref.Attrs(a)...))': the boxes of the two answers are made at any time. -/
import Derived.Test.YtempaadgheondabDoorHOrd
import Derived.Test.YtempaadgheondabDoorHPlain
namespace Go.Proofs.YtempaadgheondabDoor
open Go.RowKit
set_option maxRecDepth 100000

section
variable {a : Act} {w : World} {dst : Option Tmp} {ty : TypeId} {pos : String} {after : Array Edge} {K : Act → World → Prop} {Q : Exit → Act → World → Prop}
theorem run_att (ρ : Operand → Value) (x : Operand) (v : Value) (hf : ρ (.func 8) = .func (.func 8) #[] #[]) (hx : ρ x = v) :
    (execOp ρ { dst := dst, op := .call { callee := .value (.func 8), args := #[x], argTypes := #[27] }, type := ty, pos := pos, after := after, guard := none }).run Tryd.prog w = .ok (.enter 8 #[v]) w := by
  unfold execOp
  simp [resolve, invoke, hf, hx, go_sem]
theorem call_att (x : Operand) (v : Value) (hx : a.eval x = v) (h : Calls Tryd.prog 8 #[v] w fun e w' => ∃ u, e = .returned u ∧ K (a.put dst u) w') :
    Oper.wp Tryd.prog { dst := dst, op := .call { callee := .value (.func 8), args := #[x], argTypes := #[27] }, type := ty, pos := pos, after := after, guard := none } a w K Q := by
  unfold Oper.wp
  rw [run_att a.eval x v rfl hx]
  refine Calls.mono h ?_
  rintro _ w' ⟨u, rfl, hk⟩
  exact hk
end
/-- The chain's states: nothing; the empty row; the first bytes; the others beside them; all of them; the call is done. -/
def J3 (Ls : List Nat) (b : Act) (w0 : World) (dA dN s0 s2 sy s5 s8 s9 : Nat) (xs ys : List Nat) (R : World → Array Value → Array Value → World → Prop) : Nat → Option Nat → Option Nat → Act → World → Prop
  | 0, A, N, a, W => Two Ls b w0 dA dN A N a W
  | 1, A, N, a, W => Two Ls b w0 dA dN A N a W ∧ ∃ v, a.tmps[s0]? = some v ∧ W.ownsRow w0.heap.size 5 1 v ([] : List Nat).length (bcells [])
  | 2, A, N, a, W => Two Ls b w0 dA dN A N a W ∧ ∃ v, a.tmps[s2]? = some v ∧ W.ownsRow w0.heap.size 5 1 v xs.length (bcells xs)
  | 3, A, N, a, W => Two Ls b w0 dA dN A N a W ∧ (∃ v, a.tmps[s2]? = some v ∧ W.ownsRow w0.heap.size 5 1 v xs.length (bcells xs)) ∧ ∃ ay cy, a.tmps[sy]? = some (.slice ay ys.length cy) ∧ BRd W ay ys
  | 4, A, N, a, W => Two Ls b w0 dA dN A N a W ∧ ∃ v, a.tmps[s5]? = some v ∧ W.ownsRow w0.heap.size 5 1 v (xs ++ ys).length (bcells (xs ++ ys))
  | _, A, N, a, W => Two Ls b w0 dA dN A N a W ∧ ∃ cA cN Wc w1, a.tmps[s8]? = some (.agg cA) ∧ a.tmps[s9]? = some (.agg cN) ∧ Past w0 R cA cN Wc w1 A N W
section
variable {Ls : List Nat} {b : Act} {w0 : World} {dA dN s0 s2 sy s5 s8 s9 : Nat} {xs ys : List Nat} {R : World → Array Value → Array Value → World → Prop}
theorem J3.two : ∀ {k : Nat} {A N : Option Nat} {a : Act} {W : World}, J3 Ls b w0 dA dN s0 s2 sy s5 s8 s9 xs ys R k A N a W → Two Ls b w0 dA dN A N a W
  | 0, _, _, _, _, h => h
  | 1, _, _, _, _, h => h.1
  | 2, _, _, _, _, h => h.1
  | 3, _, _, _, _, h => h.1
  | 4, _, _, _, _, h => h.1
  | _ + 5, _, _, _, _, h => h.1
/-- A box is made. -/
theorem J3.make {k : Nat} {A N A' N' : Option Nat} {a : Act} {W W' : World} {d : Nat} {v : Value} (h : J3 Ls b w0 dA dN s0 s2 sy s5 s8 s9 xs ys R k A N a W)
    (h2 : Two Ls b w0 dA dN A' N' (a.put (some d) v) W') (hb : Below W.heap.size W W') (hd : d ≠ s0 ∧ d ≠ s2 ∧ d ≠ sy ∧ d ≠ s5 ∧ d ≠ s8 ∧ d ≠ s9) (hA : ∀ g, A' = some g → A = some g ∨ g = W.heap.size) (hN : ∀ g, N' = some g → N = some g ∨ g = W.heap.size) :
    J3 Ls b w0 dA dN s0 s2 sy s5 s8 s9 xs ys R k A' N' (a.put (some d) v) W' := by
  obtain ⟨d0, d2, dy, d5, d8, d9⟩ := hd
  match k, h with
  | 0, _ => exact h2
  | 1, ⟨_, u, h3, h4⟩ => exact ⟨h2, u, by rw [slot_put v d0]; exact h3, own_later h4 hb⟩
  | 2, ⟨_, u, h3, h4⟩ => exact ⟨h2, u, by rw [slot_put v d2]; exact h3, own_later h4 hb⟩
  | 3, ⟨_, ⟨u, h3, h4⟩, ay, cy, h5, h6⟩ => exact ⟨h2, ⟨u, by rw [slot_put v d2]; exact h3, own_later h4 hb⟩, ay, cy, by rw [slot_put v dy]; exact h5, h6.below hb⟩
  | 4, ⟨_, u, h3, h4⟩ => exact ⟨h2, u, by rw [slot_put v d5]; exact h3, own_later h4 hb⟩
  | _ + 5, ⟨_, cA, cN, Wc, w1, h3, h4, h5⟩ =>
    have h6 := h5.later hb
    refine ⟨h2, cA, cN, Wc, w1, by rw [slot_put v d8]; exact h3, by rw [slot_put v d9]; exact h4, h6.r, h6.sA, h6.sN, h6.oA, h6.oN, h6.c0, h6.c1, h6.c2, h6.blk, fun g e => ?_, fun g e => ?_⟩
    · rcases hA g e with e | rfl
      · exact h5.nA g e
      · exact .inr h5.c2
    · rcases hN g e with e | rfl
      · exact h5.nN g e
      · exact .inr h5.c2
end
def remB : Nat → Nat
  | 0 => 10
  | 1 => 9
  | 2 => 8
  | 3 => 7
  | 4 => 6
  | _ => 2
def chainB (i0 i2 i4 i5 i6 : Nat) : Nat → Nat
  | 0 => i0
  | 1 => i2
  | 2 => i4
  | 3 => i5
  | _ => i6
section
variable {ops : Array Oper} {Q : Exit → Act → World → Prop}
set_option maxHeartbeats 1000000 in
theorem dec3_region (Ls : List Nat) (b : Act) (w0 W0 : World) (dA dN s0 sx s2 sa sy s5 s6 s7 s8 s9 i0 i2 i4 i5 i6 i7 i8 i9 iA iN iS iT : Nat) (cells : Array Value) (xs ys : List Nat) (ax : Option Addr) (cx : Nat) (R : World → Array Value → Array Value → World → Prop) (L : Nat → Bool → Bool → Array Bool)
    (hQ : ∀ c a a' w, Q (.panic c) a w → Q (.panic c) a' w)
    (o0 : ∃ ty po af, ops[i0]? = some { dst := some s0, op := .buildSlice 28 0 #[], type := ty, pos := po, after := af, guard := none })
    (o2 : ∃ po af, ops[i2]? = some { dst := some s2, op := .call { callee := .builtin .append, args := #[.tmp s0, .tmp sx], argTypes := #[28, 28] }, type := 28, pos := po, after := af, guard := none })
    (o4 : ∃ ty po af, ops[i4]? = some { dst := some sy, op := .call { callee := .value (.func 8), args := #[.tmp sa], argTypes := #[27] }, type := ty, pos := po, after := af, guard := none })
    (o5 : ∃ po af, ops[i5]? = some { dst := some s5, op := .call { callee := .builtin .append, args := #[.tmp s2, .tmp sy], argTypes := #[28, 28] }, type := 28, pos := po, after := af, guard := none })
    (o6 : ∃ ty po af, ops[i6]? = some { dst := some s6, op := .call { callee := .value (.func 7), args := #[.tmp s5], argTypes := #[28] }, type := ty, pos := po, after := af, guard := none })
    (o7 : ∃ ty po af, ops[i7]? = some { dst := some s7, op := .move (.tmp s6), type := ty, pos := po, after := af, guard := none })
    (o8 : ∃ ty po af, ops[i8]? = some { dst := some s8, op := .extract (.tmp s7) 0, type := ty, pos := po, after := af, guard := none })
    (o9 : ∃ ty po af, ops[i9]? = some { dst := some s9, op := .extract (.tmp s7) 1, type := ty, pos := po, after := af, guard := none })
    (oA : ∃ ty po af, ops[iA]? = some { dst := some dA, op := .alloc 27, type := ty, pos := po, after := af, guard := none })
    (oN : ∃ ty po af, ops[iN]? = some { dst := some dN, op := .alloc 32, type := ty, pos := po, after := af, guard := none })
    (oS : ∃ ty po af, ops[iS]? = some { dst := none, op := .store 27 (.tmp dA) (.tmp s8), type := ty, pos := po, after := af, guard := none })
    (oT : ∃ ty po af, ops[iT]? = some { dst := none, op := .store 32 (.tmp dN) (.tmp s9), type := ty, pos := po, after := af, guard := none })
    (hns : Region.noSelect ops = true)
    (hA : ∀ k N, k ≤ 5 → (L k false N).setIfInBounds iA true = L k true N) (hN : ∀ k A, k ≤ 5 → (L k A false).setIfInBounds iN true = L k A true)
    (hr : ∀ k A N, k < 5 → Region.ready .any ops (L k A N) = chainB i0 i2 i4 i5 i6 k :: mayMake iA iN A N) (hrn : ∀ A N, (A && N) = false → Region.ready .any ops (L 5 A N) = mayMake iA iN A N)
    (hl0 : ∀ A N, (L 0 A N).setIfInBounds i0 true = L 1 A N) (hl1 : ∀ A N, (L 1 A N).setIfInBounds i2 true = L 2 A N) (hl2 : ∀ A N, (L 2 A N).setIfInBounds i4 true = L 3 A N) (hl3 : ∀ A N, (L 3 A N).setIfInBounds i5 true = L 4 A N)
    (t7 : ∀ A N, Region.free .any ops ((L 4 A N).setIfInBounds i6 true) i7 = true ∧ (Region.ready .any ops ((L 4 A N).setIfInBounds i6 true)).contains i7 = true)
    (t8 : ∀ A N, Region.free .any ops (((L 4 A N).setIfInBounds i6 true).setIfInBounds i7 true) i8 = true ∧ (Region.ready .any ops (((L 4 A N).setIfInBounds i6 true).setIfInBounds i7 true)).contains i8 = true)
    (t9 : ∀ A N, Region.free .any ops ((((L 4 A N).setIfInBounds i6 true).setIfInBounds i7 true).setIfInBounds i8 true) i9 = true ∧ (Region.ready .any ops ((((L 4 A N).setIfInBounds i6 true).setIfInBounds i7 true).setIfInBounds i8 true)).contains i9 = true)
    (hl4 : ∀ A N, ((((L 4 A N).setIfInBounds i6 true).setIfInBounds i7 true).setIfInBounds i8 true).setIfInBounds i9 true = L 5 A N)
    (hrS : Region.ready .any ops (L 5 true true) = [iS]) (hrT : Region.ready .any ops ((L 5 true true).setIfInBounds iS true) = [iT]) (hrE : Region.ready .any ops (((L 5 true true).setIfInBounds iS true).setIfInBounds iT true) = [])
    (hLs : Ls = [dA, dN, s0, s2, sy, s5, s6, s7, s8, s9]) (hnd : Ls.Nodup) (hsz : ∀ s ∈ Ls, s < b.tmps.size)
    (hsx : sx ∉ Ls) (hsa : sa ∉ Ls) (hx : b.tmps[sx]? = some (.slice ax xs.length cx)) (ha : b.tmps[sa]? = some (.agg cells)) (rx : BRd w0 ax xs) (hys : ∀ x ∈ ys, x < 256)
    (hAT : ∀ W, Below w0.heap.size w0 W → Calls Tryd.prog 8 #[.agg cells] W fun e w' => ∃ v, e = .returned v ∧ w'.ownsRow W.heap.size 5 1 v ys.length (bcells ys) ∧ Below W.heap.size W w') (hlen : xs.length + ys.length ≤ 500000)
    (hD : ∀ W v, Below w0.heap.size w0 W → W.ownsRow w0.heap.size 5 1 v (xs ++ ys).length (bcells (xs ++ ys)) → Calls Tryd.prog 7 #[v] W fun e w' => ∃ cA cN, e = .returned (.tuple #[.agg cA, .agg cN]) ∧ cA.size = 7 ∧ cN.size = 3 ∧ cA.all (·.oneCell') = true ∧ cN.all (·.oneCell') = true ∧ R W cA cN w' ∧ Below W.heap.size W w')
    (fin : ∀ gA gN cA cN Wc w1 W a, Fr Ls b a → a.tmps[dA]? = some (.pointer (some ⟨gA, 0, none⟩)) → a.tmps[dN]? = some (.pointer (some ⟨gN, 0, none⟩)) → R Wc cA cN w1 → Below w0.heap.size w0 Wc → Wc.heap.size ≤ w1.heap.size → w1.heap.size ≤ W.heap.size → (∀ k, Wc.heap.size ≤ k → k < w1.heap.size → W.heap[k]? = w1.heap[k]?) → Below w0.heap.size w0 W → w0.heap.size ≤ gA → w0.heap.size ≤ gN → W.rangeAt gA 0 cA.toList → W.rangeAt gN 0 cN.toList → Q .normal a W)
    (hW0 : Below w0.heap.size w0 W0) :
    wpAnyH Tryd.prog .any ops Q (fun W => Below w0.heap.size w0 W) 12 (L 0 false false) b W0 := by
  subst hLs
  have mem : ∀ {s : Nat}, s ∈ [dA, dN, s0, s2, sy, s5, s6, s7, s8, s9] → s < b.tmps.size := fun h => hsz _ h
  simp only [List.nodup_cons, List.mem_cons, List.not_mem_nil, or_false, not_or] at hnd
  obtain ⟨⟨a1, a2, a3, ay1, a4, a5, a6, a7, a8⟩, ⟨b2, b3, by1, b4, b5, b6, b7, b8⟩, ⟨c3, cy1, c4, c5, c6, c7, c8⟩, ⟨ey1, e4, e5, e6, e7, e8⟩, ⟨yy4, yy5, yy6, yy7, yy8⟩, ⟨f5, f6, f7, f8⟩, ⟨g6, g7, g8⟩, ⟨h7, h8⟩, i8', _⟩ := hnd
  have key := float2 (P := Tryd.prog) (ops := ops) (Q := Q) (S := fun W => Below w0.heap.size w0 W) 5 iA iN (chainB i0 i2 i4 i5 i6) remB L (J3 [dA, dN, s0, s2, sy, s5, s6, s7, s8, s9] b w0 dA dN s0 s2 sy s5 s8 s9 xs ys R)
    (fun k A N a w h => h.two.over) hA hN hr hrn
    (fun k N a w hk h => by
      obtain ⟨ty, po, af, ho⟩ := oA
      refine op_plain ho rfl (wp_of_run run_allocA ⟨w.heap.size, ?_⟩)
      exact h.make (h.two.makeA (by simp) a1 (mem (by simp))) ((Below.refl _ w).alloc (Nat.le_refl _) _) ⟨a2, a3, ay1, a4, a7, a8⟩ (fun g e => .inr (by simpa using e.symm)) (fun g e => .inl e))
    (fun k A a w hk h => by
      obtain ⟨ty, po, af, ho⟩ := oN
      refine op_plain ho rfl (wp_of_run run_allocN ⟨w.heap.size, ?_⟩)
      exact h.make (h.two.makeN (by simp) (Ne.symm a1) (mem (by simp))) ((Below.refl _ w).alloc (Nat.le_refl _) _) ⟨b2, b3, by1, b4, b7, b8⟩ (fun g e => .inl e) (fun g e => .inr (by simpa using e.symm)))
    ?_ (fun k hk => by match k, hk with | 0, _ => decide | 1, _ => decide | 2, _ => decide | 3, _ => decide | 4, _ => decide) ?_
  · exact key 5 0 none none b W0 rfl ⟨Fr.refl _ _, hW0, fun _ e => by (cases e), fun _ e => by (cases e)⟩
  · -- the chain
    intro k A N a w hk h go
    match k, hk, h, go with
    | 0, _, h, go =>
      obtain ⟨ty, po, af, ho⟩ := o0
      have hT : Two _ _ _ _ _ _ _ _ _ := h
      refine op_plain ho rfl (wp_of_run run_build0 ?_)
      have hb : Below w.heap.size w (w.alloc (.cells #[] 5)) := (Below.refl _ w).alloc (Nat.le_refl _) _
      have h1 := (hT.later hb).put (s := s0) (by simp) (Ne.symm a2) (Ne.symm b2) (.slice (some ⟨w.heap.size, 0, none⟩) 0 0)
      have := go _ _ ⟨h1, _, slot_same _ (by rw [hT.fr.size]; exact mem (by simp)), own_base (own_empty w) hT.over.size⟩
      rw [← hl0] at this
      have ef : remB 0 + toMake A N - 1 = remB (0 + 1) + toMake A N := by show 10 + toMake A N - 1 = 9 + toMake A N; omega
      rw [ef]
      exact ⟨h1.over, this⟩
    | 1, _, h, go =>
      obtain ⟨po, af, ho⟩ := o2
      obtain ⟨hT, v, hv, hw⟩ := h
      obtain ⟨v', w', hrun, h2, h3, h4⟩ := app_keep xs ax cx hw hT.over.size (by simp; omega) (rx.below hT.over)
      refine op_plain ho rfl (kept_append_intro (w' := w') (.tmp s0) (.tmp sx) v (.slice ax xs.length cx) v' (slot_eval hv) (slot_eval (hT.fr.slot hsx hx)) hrun ?_)
      have h5 := (hT.keep h3 h4).put (s := s2) (by simp) (Ne.symm a3) (Ne.symm b3) v'
      have := go _ _ ⟨h5, _, slot_same _ (by rw [hT.fr.size]; exact mem (by simp)), h2⟩
      rw [← hl1] at this
      have ef : remB 1 + toMake A N - 1 = remB (1 + 1) + toMake A N := by show 9 + toMake A N - 1 = 8 + toMake A N; omega
      rw [ef]
      exact ⟨h5.over, this⟩
    | 2, _, h, go =>
      obtain ⟨ty, po, af, ho⟩ := o4
      obtain ⟨hT, v, hv, hw⟩ := h
      refine op_plain ho rfl (call_att (.tmp sa) (.agg cells) (slot_eval (hT.fr.slot hsa ha)) ((hAT w hT.over).mono ?_))
      rintro _ w' ⟨u, rfl, hu, hb⟩
      obtain ⟨ay, cy, rfl, _, hry⟩ := own_brd hu (by omega) hys
      have h5 := (hT.later hb).put (s := sy) (by simp) (Ne.symm ay1) (Ne.symm by1) (.slice ay ys.length cy)
      have := go _ _ ⟨h5, ⟨v, by rw [slot_put _ (Ne.symm ey1)]; exact hv, own_later hw hb⟩, ay, cy, slot_same _ (by rw [hT.fr.size]; exact mem (by simp)), hry⟩
      rw [← hl2] at this
      have ef : remB 2 + toMake A N - 1 = remB (2 + 1) + toMake A N := by show 8 + toMake A N - 1 = 7 + toMake A N; omega
      rw [ef]
      exact ⟨_, rfl, h5.over, this⟩
    | 3, _, h, go =>
      obtain ⟨po, af, ho⟩ := o5
      obtain ⟨hT, ⟨v, hv, hw⟩, ay, cy, hvy, ry⟩ := h
      obtain ⟨v', w', hrun, h2, h3, h4⟩ := app_keep ys ay cy hw hT.over.size hlen ry
      refine op_plain ho rfl (kept_append_intro (w' := w') (.tmp s2) (.tmp sy) v (.slice ay ys.length cy) v' (slot_eval hv) (slot_eval hvy) hrun ?_)
      have h5 := (hT.keep h3 h4).put (s := s5) (by simp) (Ne.symm a4) (Ne.symm b4) v'
      have := go _ _ ⟨h5, _, slot_same _ (by rw [hT.fr.size]; exact mem (by simp)), h2⟩
      rw [← hl3] at this
      have ef : remB 3 + toMake A N - 1 = remB (3 + 1) + toMake A N := by show 7 + toMake A N - 1 = 6 + toMake A N; omega
      rw [ef]
      exact ⟨h5.over, this⟩
    | 4, _, h, go =>
      obtain ⟨ty, po, af, ho⟩ := o6
      obtain ⟨hT, v, hv, hw⟩ := h
      refine op_plain ho rfl (call_dec (.tmp s5) v (slot_eval hv) ((hD w v hT.over hw).mono ?_))
      rintro _ w' ⟨cA, cN, rfl, z1, z2, z3, z4, z5, hb⟩
      refine ⟨_, rfl, hT.over.trans (hb.mono hT.over.size), ?_⟩
      have hT' := hT.later hb
      have q6 := hT'.put (s := s6) (by simp) (Ne.symm a5) (Ne.symm b5) (.tuple #[.agg cA, .agg cN])
      have q7 := q6.put (s := s7) (by simp) (Ne.symm a6) (Ne.symm b6) (.tuple #[.agg cA, .agg cN])
      have q8 := q7.put (s := s8) (by simp) (Ne.symm a7) (Ne.symm b7) (.agg cA)
      have q9 := q8.put (s := s9) (by simp) (Ne.symm a8) (Ne.symm b8) (.agg cN)
      have e6 : (a.put (some s6) (.tuple #[.agg cA, .agg cN])).tmps[s6]? = some (.tuple #[.agg cA, .agg cN]) := slot_same _ (by rw [hT.fr.size]; exact mem (by simp))
      have e7 : ((a.put (some s6) (.tuple #[.agg cA, .agg cN])).put (some s7) (.tuple #[.agg cA, .agg cN])).tmps[s7]? = some (.tuple #[.agg cA, .agg cN]) := slot_same _ (by rw [q6.fr.size]; exact mem (by simp))
      have e8 : (((a.put (some s6) (.tuple #[.agg cA, .agg cN])).put (some s7) (.tuple #[.agg cA, .agg cN])).put (some s8) (.agg cA)).tmps[s8]? = some (.agg cA) := slot_same _ (by rw [q7.fr.size]; exact mem (by simp))
      have fin4 := go _ _ ⟨q9, cA, cN, w, w', by rw [slot_put _ (Ne.symm i8')]; exact e8, slot_same _ (by rw [q8.fr.size]; exact mem (by simp)), z5, z1, z2, z3, z4, hT.over, hb.size, Nat.le_refl _, fun _ _ _ => rfl,
        fun g e => .inl (Array.getElem?_eq_some_iff.1 (hT.boxA g e).2.2).1, fun g e => .inl (Array.getElem?_eq_some_iff.1 (hT.boxN g e).2.2).1⟩
      have ef : remB 4 + toMake A N - 1 = (remB 5 + toMake A N) + 1 + 1 + 1 := by show 6 + toMake A N - 1 = 2 + toMake A N + 1 + 1 + 1; omega
      have ec : chainB i0 i2 i4 i5 i6 4 = i6 := rfl
      rw [ef, ec]
      obtain ⟨ty7, po7, af7, ho7⟩ := o7
      obtain ⟨ty8, po8, af8, ho8⟩ := o8
      obtain ⟨ty9, po9, af9, ho9⟩ := o9
      refine take_slot ho7 rfl rfl hns (t7 _ _).1 (t7 _ _).2 hQ (fun w _ => op_move _ w _ _ _ rfl (slot_eval e6)) q6.over ?_
      refine take_slot ho8 rfl rfl hns (t8 _ _).1 (t8 _ _).2 hQ (fun w _ => op_extract _ w _ _ _ _ _ rfl (slot_eval e7) rfl) q7.over ?_
      refine take_slot ho9 rfl rfl hns (t9 _ _).1 (t9 _ _).2 hQ (fun w _ => op_extract _ w _ _ _ _ _ rfl (slot_eval (by rw [slot_put _ (Ne.symm h7)]; exact e7)) rfl) q8.over ?_
      rw [hl4]
      exact fin4
  · -- the stores
    intro gA gN a w h
    obtain ⟨hT, cA, cN, Wc, w1, h8, h9, hP⟩ := h
    obtain ⟨tyS, poS, afS, hoS⟩ := oS
    obtain ⟨tyT, poT, afT, hoT⟩ := oT
    obtain ⟨pA, lA, bA⟩ := hT.boxA gA rfl
    obtain ⟨pN, lN, bN⟩ := hT.boxN gN rfl
    have hne : gN ≠ gA := fun e => by
      subst e
      rw [bA] at bN
      simp at bN
    have kA : Keeps (fun k => k = gA ∨ k = gN) w (w.setCells gA 0 cA.toList) := (Keeps.refl _ w).setCells gA 0 _ (.inl (.inl rfl))
    have kN : Keeps (fun k => k = gA ∨ k = gN) w ((w.setCells gA 0 cA.toList).setCells gN 0 cN.toList) := kA.setCells gN 0 _ (.inl (.inr rfl))
    have oA : Below w0.heap.size w0 (w.setCells gA 0 cA.toList) := hT.over.trans (kA.below _ hT.over.size (fun k e => by rcases e with rfl | rfl <;> assumption))
    have oN : Below w0.heap.size w0 ((w.setCells gA 0 cA.toList).setCells gN 0 cN.toList) := hT.over.trans (kN.below _ hT.over.size (fun k e => by rcases e with rfl | rfl <;> assumption))
    have thA : w.there gA 0 cA.size := there_of bA _ (by rw [hP.sA]; decide)
    have thN : (w.setCells gA 0 cA.toList).there gN 0 cN.size := World.there_setCells (there_of bN _ (by rw [hP.sN]; decide)) _ _ _
    have infA : (Tryd.prog.info? 27).map (·.size) = some cA.size := by rw [hP.sA]; kernel_rfl
    have infN : (Tryd.prog.info? 32).map (·.size) = some cN.size := by rw [hP.sN]; kernel_rfl
    have r2 : remB 5 = 0 + 1 + 1 := rfl
    rw [r2]
    refine wpAnyH_all hrS (by simp) fun i hi => ?_
    obtain rfl : i = iS := by simpa using hi
    refine op_plain hoS rfl ?_
    unfold Oper.wp execOp
    simp only [slot_eval pA, slot_eval h8, Sem.run_bind, run_storeAt_mid w gA 0 27 cA thA infA hP.oA, Result.andThen_ok, Sem.run_pure]
    refine ⟨oA, ?_⟩
    refine wpAnyH_all hrT (by simp) fun i hi => ?_
    obtain rfl : i = iT := by simpa using hi
    refine op_plain hoT rfl ?_
    unfold Oper.wp execOp
    have e1 : (a.put none undef).eval (.tmp dN) = .pointer (some ⟨gN, 0, none⟩) := slot_eval pN
    have e2 : (a.put none undef).eval (.tmp s9) = .agg cN := slot_eval h9
    simp only [e1, e2, Sem.run_bind, run_storeAt_mid (w.setCells gA 0 cA.toList) gN 0 32 cN thN infN hP.oN, Result.andThen_ok, Sem.run_pure]
    refine ⟨oN, ?_⟩
    refine wpAnyH_done hrE ?_ _
    refine fin gA gN cA cN Wc w1 _ _ hT.fr pA pN hP.r hP.c0 hP.c1 (Nat.le_trans hP.c2 kN.size) (fun k k1 k2 => ?_) oN lA lN ?_ ?_
    · have := hP.c2
      rw [kN.block k (by omega) (fun e => ?_)]
      · exact hP.blk k k1 k2
      · rcases e with rfl | rfl
        · have := hP.nA _ rfl; omega
        · have := hP.nN _ rfl; omega
    · exact range_keep (World.rangeAt_setCells_same w gA 0 cA.toList (by simpa using thA)) (Ne.symm hne)
    · exact World.rangeAt_setCells_same _ gN 0 cN.toList (by simpa using thN)
end
theorem Fr.lay10 {t0 t1 t2 t3 t4 t5 t6 t7 t8 t9 : Nat} {b a : Act} (h : Fr [t0, t1, t2, t3, t4, t5, t6, t7, t8, t9] b a) (hsz : ∀ s ∈ [t0, t1, t2, t3, t4, t5, t6, t7, t8, t9], s < b.tmps.size) {v0 v1 : Value} (h0 : a.tmps[t0]? = some v0) (h1 : a.tmps[t1]? = some v1) :
    ∃ x2 x3 x4 x5 x6 x7 x8 x9, a = (((((((((b.put (some t0) v0).put (some t1) v1).put (some t2) x2).put (some t3) x3).put (some t4) x4).put (some t5) x5).put (some t6) x6).put (some t7) x7).put (some t8) x8).put (some t9) x9 := by
  have get : ∀ t, t ∈ [t0, t1, t2, t3, t4, t5, t6, t7, t8, t9] → ∃ x, a.tmps[t]? = some x := fun t ht => ⟨_, Array.getElem?_eq_getElem (by rw [h.size]; exact hsz t ht)⟩
  obtain ⟨x2, h2⟩ := get t2 (by simp)
  obtain ⟨x3, h3⟩ := get t3 (by simp)
  obtain ⟨x4, h4⟩ := get t4 (by simp)
  obtain ⟨x5, h5⟩ := get t5 (by simp)
  obtain ⟨x6, h6⟩ := get t6 (by simp)
  obtain ⟨x7, h7⟩ := get t7 (by simp)
  obtain ⟨x8, h8⟩ := get t8 (by simp)
  obtain ⟨x9, h9⟩ := get t9 (by simp)
  refine ⟨x2, x3, x4, x5, x6, x7, x8, x9, Fr.eq (b := b) (l := [(t0, v0), (t1, v1), (t2, x2), (t3, x3), (t4, x4), (t5, x5), (t6, x6), (t7, x7), (t8, x8), (t9, x9)]) (c := b) rfl h.defers h.size h.out fun p hp => ?_⟩
  simp only [List.mem_cons, List.not_mem_nil, or_false] at hp
  rcases hp with rfl | rfl | rfl | rfl | rfl | rfl | rfl | rfl | rfl | rfl <;> assumption
end Go.Proofs.YtempaadgheondabDoor
/- An attribute that is not known, ahead of good ones without Raws (plain). -/
namespace Go.Proofs.YtempaadgheondabDoor
open Go.RowKit
set_option maxRecDepth 100000

/-- The same attributes, with one Raw. -/
def withR (a : At) (ty : Nat) (d : List Nat) : At := { a with raws := [(224, (ty : Int), d)] }
theorem fine_with {a : At} (h : Fine a) (ty : Nat) (d : List Nat) (ht : 8 < ty) (ht2 : ty < 256) (hd : d.length ≤ 255) : Fine (withR a ty d) := by
  obtain ⟨h1, h2, h3⟩ := h
  refine ⟨?_, h2, h3⟩
  have k : goodA a = (headA a && rawsUp a.raws a.raws.length) := rfl
  have k0 : goodA (withR a ty d) = (headA a && rawsUp [(224, (ty : Int), d)] 1) := rfl
  rw [k, Bool.and_eq_true] at h1
  rw [k0, h1.1, Bool.true_and]
  have hk : rawK (224, (ty : Int), d) = true := decide_eq_true (.inr (.inr ⟨by show (8 : Int) < (ty : Int); omega, by show (ty : Int) ≤ 255; omega, rfl, hd⟩))
  have e : rawsUp [(224, (ty : Int), d)] 1 = (true && rawK (224, (ty : Int), d) && (decide (0 = 0) || decide (typAt [(224, (ty : Int), d)] (0 - 1) < typAt [(224, (ty : Int), d)] 0))) := rfl
  rw [e, hk]
  rfl
theorem parts_with {a : At} (hr : a.raws = []) (ty : Nat) (d : List Nat) (ht : 8 < ty) : partsA (withR a ty d) = partsA a ++ [(224, ty, d)] := by
  unfold partsA withR
  simp only [hr]
  have e1 : ([(224, (ty : Int), d)] : List (Int × Int × List Nat)).filter (fun r => decide (r.2.1 < 8)) = [] := by
    rw [List.filter_cons, if_neg (by simp only [decide_eq_true_eq]; omega)]; rfl
  have e2 : ([(224, (ty : Int), d)] : List (Int × Int × List Nat)).filter (fun r => decide (8 < r.2.1)) = [(224, (ty : Int), d)] := by
    rw [List.filter_cons, if_pos (by simp only [decide_eq_true_eq]; omega)]; rfl
  rw [e1, e2]
  simp only [List.filter_nil, List.map_nil, List.append_nil]
  rfl
theorem parts_low {a : At} (hr : a.raws = []) : ∀ p ∈ partsA a, p.2.1 ≤ 8 := fun p hp => by
  unfold partsA at hp
  rw [hr] at hp
  simp only [List.filter_nil, List.map_nil, List.append_nil, List.mem_append, List.mem_cons, List.not_mem_nil, or_false] at hp
  rcases hp with (((rfl | rfl | rfl) | hp) | hp) | hp
  · simp
  · simp
  · simp
  · split at hp
    · simp at hp; subst hp; simp
    · simp at hp
  · split at hp
    · simp at hp; subst hp; simp
    · simp at hp
  · split at hp
    · simp at hp; subst hp; simp
    · simp at hp
/-- What is read, if it may be. -/
theorem read_pass {a : At} (h : Fine a) (hr : a.raws = []) (fl ty : Nat) (d : List Nat) (hf : fl / 16 % 2 = 0) (h128 : ¬ fl < 128) (h64 : fl / 64 % 2 = 1) (ht : 8 < ty) (ht2 : ty < 256) (hd : d.length ≤ 255) : readA ([fl, ty, d.length] ++ d ++ encA a) = .inr (withR a ty d) := by
  rw [read_unknown fl ty d _ hf ht hd, if_neg h128, if_pos h64]
  have h1 := read_unknown 224 ty d (encA a) (by decide) ht hd
  rw [if_neg (by decide), if_pos (by decide)] at h1
  rw [← h1]
  have e : [224, ty, d.length] ++ d ++ encA a = flatA ((224, ty, d) :: partsA a) := by
    rw [flatA, flat_parts a h.good]
    unfold oneB
    rw [if_neg (by simp only; omega)]
  rw [e]
  have hp := parts_with hr ty d ht
  have hF := fine_with h ty d ht ht2 hd
  have hs : ((224, ty, d) :: partsA a).Perm (partsA (withR a ty d)) := by rw [hp]; exact (List.perm_append_singleton _ _).symm
  exact read_all hF _ (fun p hp9 => (hs.mem_iff).1 hp9) ((hs.pairwise_iff (fun h => Ne.symm h)).2 ((parts_rise hF).imp fun h => Nat.ne_of_lt h)) (fun p hp9 => (hs.mem_iff).2 hp9)
/-- What is read, if it may not be. -/
theorem read_leave {a : At} (h : Fine a) (hr : a.raws = []) (fl ty : Nat) (d : List Nat) (hf : fl / 16 % 2 = 0) (h128 : ¬ fl < 128) (h64 : ¬ fl / 64 % 2 = 1) (ht : 8 < ty) (hd : d.length ≤ 255) : readA ([fl, ty, d.length] ++ d ++ encA a) = .inr a := by
  rw [read_unknown fl ty d _ hf ht hd, if_neg h128, if_neg h64, ← flat_parts a h.good]
  have hlow := parts_low hr
  have h9 := run_parts h (partsA a) [ty] [] (fun _ h => h) ((parts_rise h).imp fun h => Nat.ne_of_lt h) (fun p hp => by have := hlow p hp; simp only [List.mem_cons, List.not_mem_nil, or_false]; omega)
  have e : partS a [ty] = ⟨0, [], 0, -1, -1, [], []⟩ := by
    unfold partS
    rw [hr, if_neg (by simp; omega), if_neg (by simp; omega), if_neg (by simp; omega), if_neg (by simp; omega), if_neg (by simp; omega), if_neg (by simp; omega)]
    rfl
  rw [e, List.append_nil, runA_end] at h9
  have hin : ∀ p ∈ partsA a, p.2.1 ∈ ((partsA a).map fun p => p.2.1).reverse ++ [ty] := fun p hp9 => by
    rw [List.mem_append, List.mem_reverse]
    exact .inl (List.mem_map.2 ⟨p, hp9, rfl⟩)
  obtain ⟨t1, t2, t3⟩ := parts_three a
  have s1 := hin _ t1
  have s2 := hin _ t2
  have s3 := hin _ t3
  simp only at s1 s2 s3
  rw [h9, partS_all h _ hin]
  unfold finA
  rw [if_neg (fun h => h s1), if_neg (fun h => h s2), if_neg (fun h => h s3)]
theorem read_refuse (a : At) (fl ty : Nat) (d : List Nat) (hf : fl / 16 % 2 = 0) (h128 : fl < 128) (ht : 8 < ty) (hd : d.length ≤ 255) : readA ([fl, ty, d.length] ++ d ++ encA a) = .inl (3, 2, [fl, ty, d.length] ++ d) := by
  rw [read_unknown fl ty d _ hf ht hd, if_pos h128]
end Go.Proofs.YtempaadgheondabDoor
