/- inHundreds: prefixes, a hundred at a time. -/
import Derived.Test.YthigjonagbfbbaaDoorKAy
import Derived.Deep.DeepCutAuto
import Derived.Test.YthigjonagbfbbaaDoorKAs
namespace Go.Proofs.YthigjonagbfbbaaDoor
open Go.RowKit
set_option maxRecDepth 100000

/-- Parts of a hundred: those that are whole, and what is left. -/
def hundS {α : Type} (s : List (List α) × List α) (x : α) : List (List α) × List α := if (s.2 ++ [x]).length < 100 then (s.1, s.2 ++ [x]) else (s.1 ++ [s.2 ++ [x]], [])
def hund {α : Type} (l : List α) : List (List α) × List α := l.foldl hundS ([], [])
def lastH {α : Type} (l : List α) : List (List α) := if l = [] then [] else [l]
def hunds {α : Type} (l : List α) : List (List α) := (hund l).1 ++ lastH (hund l).2
theorem hund_snoc {α : Type} (l : List α) (x : α) : hund (l ++ [x]) = hundS (hund l) x := by unfold hund; rw [List.foldl_append]; rfl
theorem hund_lt {α : Type} (l : List α) : (hund l).2.length < 100 := by
  have key : ∀ m : List α, (hund m.reverse).2.length < 100 := by
    intro m
    induction m with
    | nil => simp [hund]
    | cons x m ih =>
      rw [List.reverse_cons, hund_snoc]
      unfold hundS
      split
      · assumption
      · simp
  have := key l.reverse
  rwa [List.reverse_reverse] at this
theorem hundS_more {α : Type} : ∀ (l : List α) (s : List (List α) × List α), ∃ more, (l.foldl hundS s).1 = s.1 ++ more
  | [], s => ⟨[], by simp⟩
  | x :: l, s => by
    obtain ⟨m, h⟩ := hundS_more l (hundS s x)
    rw [List.foldl_cons, h]
    unfold hundS
    split
    · exact ⟨m, rfl⟩
    · exact ⟨[s.2 ++ [x]] ++ m, by simp⟩
theorem hund_next {α : Type} (pre rest : List α) (x : α) (h : ¬ ((hund pre).2 ++ [x]).length < 100) : ∃ more, hunds (pre ++ x :: rest) = (hund pre).1 ++ ((hund pre).2 ++ [x]) :: more := by
  have e : hund (pre ++ x :: rest) = rest.foldl hundS (hundS (hund pre) x) := by unfold hund; rw [List.foldl_append, List.foldl_cons]
  obtain ⟨m, hm⟩ := hundS_more rest (hundS (hund pre) x)
  unfold hunds
  rw [e, hm]
  have : (hundS (hund pre) x).1 = (hund pre).1 ++ [(hund pre).2 ++ [x]] := by unfold hundS; rw [if_neg h]
  rw [this]
  exact ⟨m ++ lastH (List.foldl hundS (hundS (hund pre) x) rest).2, by simp⟩
/-- The cells of prefixes. -/
def pcs : List (Nat × Int) → List Value
  | [] => []
  | p :: r => .int .u32 (p.1 : Int) :: .int .i64 p.2 :: pcs r
theorem pcs_append (l m : List (Nat × Int)) : pcs (l ++ m) = pcs l ++ pcs m := by
  induction l with
  | nil => rfl
  | cons p r ih => simp [pcs, ih]
theorem pcs_length (l : List (Nat × Int)) : (pcs l).length = l.length * 2 := by
  induction l with
  | nil => rfl
  | cons p r ih => simp [pcs, ih]; omega
/-- A row of prefixes that is handed over. -/
def ArgH (N : Nat) (c : List (Nat × Int)) (v : Value) (G : Nat → Prop) (W : World) : Prop := W.ownsRow N 29 2 v c.length (pcs c) ∧ ∀ k, G k ↔ v.ownBlock = some k
theorem own_stands {w w' : World} {B e size n : Nat} {v : Value} {xs : List Value} (h : w.ownsRow B e size v n xs) (hs : ∀ k, v.ownBlock = some k → w'.heap[k]? = w.heap[k]?) : w'.ownsRow B e size v n xs := by
  refine ⟨h.1, ?_⟩
  rcases h.2 with hh | ⟨g, cap, cur, e1, hg, hc, rest⟩
  · exact .inl hh
  · exact .inr ⟨g, cap, cur, e1, hg, by rw [hs g (by rw [e1]; rfl)]; exact hc, rest⟩
theorem own_blk {w : World} {B e size n : Nat} {v : Value} {xs : List Value} (h : w.ownsRow B e size v n xs) (k : Nat) (hk : v.ownBlock = some k) : ∃ cur, w.heap[k]? = some (.cells cur e (0, 0)) := by
  rcases h.2 with ⟨rfl, _⟩ | ⟨g, cap, cur, rfl, hg, hc, rest⟩
  · simp [Value.ownBlock] at hk
  · simp [Value.ownBlock] at hk
    subst hk
    exact ⟨cur, hc⟩
theorem own_not_bk {w : World} {B e size n X : Nat} {t : TypeId} {C : Array Value} {v : Value} {xs : List Value} (h : w.ownsRow B e size v n xs) (hb : Bk t w X C) (hne : e ≠ t) : v.ownBlock ≠ some X := fun hk => by
  obtain ⟨cur, hc⟩ := own_blk h X hk
  unfold Bk at hb
  rw [hb] at hc
  injection hc with hc
  injection hc with h1 h2 _
  exact hne h2.symm
theorem elemPx : Elem 55 29 2 16 := ⟨Tryd.underlying55, ⟨_, _, rfl, rfl, rfl, rfl, rfl⟩, by decide, by decide⟩
theorem hundreds_any (gf : Nat) (lb : Array Value) (w : World) : Calls Tryd.prog 35 #[.func (.func gf) #[] lb] w fun e w' => e = .returned (.func (.func 50) #[] #[.pointer (some ⟨w.heap.size, 0, none⟩)]) ∧ w' = w.alloc (.cells #[.func (.func gf) #[] lb] 87) := by
  go_enter Tryd.func35, Tryd.ntmps35
  go_wp2
  go_ret
  exact ⟨by simp, rfl⟩
end Go.Proofs.YthigjonagbfbbaaDoor
/- inHundreds' loop. -/
namespace Go.Proofs.YthigjonagbfbbaaDoor
open Go.RowKit
set_option maxRecDepth 100000

/-- What the loop over prefixes holds: what its caller holds of the whole hundreds, the row under way in its box, and the caller's loop in another. -/
structure HunI (M N S Y l : Nat) (J : List (List (Nat × Int)) → (Nat → Prop) → World → Prop) (pre : List (Nat × Int)) (H1 : Nat → Prop) (v : Value) (W : World) : Prop where
  own : J (hund pre).1 H1 W
  box : Bk 55 W S #[v]
  row : W.ownsRow N 29 2 v (hund pre).2.length (pcs (hund pre).2)
  yld : Bk 100 W Y #[.func (.yield l) #[] #[]]
  noS : ¬ H1 S
  noY : ¬ H1 Y
  noV : ∀ k, v.ownBlock = some k → ¬ H1 k
  newV : ∀ k, v.ownBlock = some k → M ≤ k
def HunH (S Y : Nat) (H1 : Nat → Prop) (v : Value) (k : Nat) : Prop := H1 k ∨ k = S ∨ k = Y ∨ v.ownBlock = some k
def HunJ (M N S Y l : Nat) (J : List (List (Nat × Int)) → (Nat → Prop) → World → Prop) (pre : List (Nat × Int)) (H : Nat → Prop) (W : World) : Prop := ∃ H1 v, (∀ k, H k ↔ HunH S Y H1 v k) ∧ HunI M N S Y l J pre H1 v W
theorem cell_new_of (w : World) (C : Array Value) (t : TypeId) (j : Nat) (u : Value) (hu : C.toList[j]? = some u) : (w.alloc (.cells C t)).cell? ⟨w.heap.size, j, none⟩ = some u := (Bk.new t w C).cell j (by rw [← Array.getElem?_toList]; exact hu)
theorem HunI.stays {M N S Y l : Nat} {J : List (List (Nat × Int)) → (Nat → Prop) → World → Prop} {pre : List (Nat × Int)} {H1 : Nat → Prop} {v : Value} {W W' : World} (hJ : Held J) (h : HunI M N S Y l J pre H1 v W) (hk : Keeps (fun k => ¬ HunH S Y H1 v k) W W') : HunI M N S Y l J pre H1 v W' :=
  ⟨hJ.stays h.own (hk.mono (fun k _ hn h1 => hn (.inl h1))), h.box.keeps hk (fun h1 => h1 (.inr (.inl rfl))), own_stands h.row (fun k e => by
    obtain ⟨cur, hc⟩ := own_blk h.row k e
    exact hk.block k (Array.getElem?_eq_some_iff.1 hc).1 (fun h1 => h1 (.inr (.inr (.inr e))))), h.yld.keeps hk (fun h1 => h1 (.inr (.inr (.inl rfl)))), h.noS, h.noY, h.noV, h.newV⟩
theorem HunJ.held {M N S Y l : Nat} {J : List (List (Nat × Int)) → (Nat → Prop) → World → Prop} (hJ : Held J) : Held (HunJ M N S Y l J) := ⟨fun {s H W W'} h hk => by
    obtain ⟨H1, v, hH, hi⟩ := h
    exact ⟨H1, v, hH, hi.stays hJ (hk.mono (fun k _ hn h1 => hn ((hH k).2 h1)))⟩, fun {s H W} h k hk => by
    obtain ⟨H1, v, hH, hi⟩ := h
    rcases (hH k).1 hk with h | rfl | rfl | h
    · exact hJ.lt hi.own k h
    · exact hi.box.lt
    · exact hi.yld.lt
    · obtain ⟨cur, hc⟩ := own_blk hi.row k h
      exact (Array.getElem?_eq_some_iff.1 hc).1⟩
/-- One more in the row under way. -/
structure HunM (M N S Y l : Nat) (J : List (List (Nat × Int)) → (Nat → Prop) → World → Prop) (pre : List (Nat × Int)) (x : Nat × Int) (H1 : Nat → Prop) (v : Value) (W : World) : Prop where
  own : J (hund pre).1 H1 W
  box : Bk 55 W S #[v]
  row : W.ownsRow N 29 2 v ((hund pre).2 ++ [x]).length (pcs ((hund pre).2 ++ [x]))
  yld : Bk 100 W Y #[.func (.yield l) #[] #[]]
  noS : ¬ H1 S
  noY : ¬ H1 Y
  noV : ∀ k, v.ownBlock = some k → ¬ H1 k
  newV : ∀ k, v.ownBlock = some k → M ≤ k
theorem hun_app {M N S Y l : Nat} {J : List (List (Nat × Int)) → (Nat → Prop) → World → Prop} {pre : List (Nat × Int)} {H1 : Nat → Prop} {v : Value} {W : World} (hJ : Held J) (h : HunI M N S Y l J pre H1 v W) (hN : N ≤ W.heap.size) (hM : M ≤ W.heap.size) (A : Nat) (L : Int) :
    ∃ a c w', (Builtin.append_ #[55, 55] 55 #[v, .slice (some ⟨W.heap.size, 0, none⟩) 1 1]).run Tryd.prog (W.alloc (.cells #[.int .u32 (A : Int), .int .i64 L] 29)) = .ok (.slice a ((hund pre).2.length + 1) c) w' ∧ (Bk 55 w' S #[v] ∧ Bk 100 w' Y #[.func (.yield l) #[] #[]]) ∧
      HunM M N S Y l J pre (A, L) H1 (.slice a ((hund pre).2.length + 1) c) (w'.setCell ⟨S, 0, none⟩ (.slice a ((hund pre).2.length + 1) c)) ∧ Keeps (fun k => k = S ∨ v.ownBlock = some k) W (w'.setCell ⟨S, 0, none⟩ (.slice a ((hund pre).2.length + 1) c)) ∧ ∀ k, (Value.slice a ((hund pre).2.length + 1) c).ownBlock = some k → v.ownBlock = some k ∨ W.heap.size ≤ k := by
  have hlt := hund_lt pre
  obtain ⟨v', w', hr, hrow, hbel, hg, hob⟩ := app_more elemPx (h.row.alloc (.cells #[.int .u32 (A : Int), .int .i64 L] 29)) (by simp; omega) ⟨W.heap.size, 0, none⟩ 1 1 [.int .u32 (A : Int), .int .i64 L] rfl (fun j u hu => by
    rw [Addr.add_mid, Nat.zero_add]
    exact cell_new_of W _ _ j u hu) (by simp [Value.oneCell']) (by omega)
  obtain ⟨a, c, rfl⟩ := own_shape hrow
  have hk1 : Keeps (fun k => k = S ∨ v.ownBlock = some k) W (W.alloc (.cells #[.int .u32 (A : Int), .int .i64 L] 29)) := (Keeps.refl _ W).alloc _
  have hsz : (W.alloc (.cells #[.int .u32 (A : Int), .int .i64 L] 29)).heap.size = W.heap.size + 1 := by simp
  have hk2 : Keeps (fun k => k = S ∨ v.ownBlock = some k) W w' := hk1.grown hg (fun b e => .inl (.inr e))
  have hk3 : Keeps (fun k => k = S ∨ v.ownBlock = some k) W (w'.setCell ⟨S, 0, none⟩ (.slice a ((hund pre).2.length + 1) c)) := hk2.setCell _ _ _ (.inl (.inl rfl))
  have hnS := own_not_bk h.row h.box (by decide)
  have hnY := own_not_bk h.row h.yld (by decide)
  have hb : ∀ k, (Value.slice a ((hund pre).2.length + 1) c).ownBlock = some k → v.ownBlock = some k ∨ W.heap.size ≤ k := fun k e => by
    rcases hob with h1 | h1
    · exact .inl (by rw [← h1]; exact e)
    · rw [h1, hsz] at e
      injection e with e
      exact .inr (by omega)
  have box' : Bk 55 w' S #[v] := (h.box.alloc _).keeps (F := fun k => v.ownBlock = some k) ((Keeps.refl _ _).grown hg (fun b e => .inl e)) hnS
  have yld' : Bk 100 w' Y #[.func (.yield l) #[] #[]] := (h.yld.alloc _).keeps (F := fun k => v.ownBlock = some k) ((Keeps.refl _ _).grown hg (fun b e => .inl e)) hnY
  have hSY : S ≠ Y := fun e => by
    have h1 := h.box
    have h2 := h.yld
    rw [e] at h1
    unfold Bk at h1 h2
    rw [h1] at h2
    injection h2 with h2
    injection h2 with _ h2 _
    exact absurd h2 (by decide)
  refine ⟨a, c, w', hr, ⟨box', yld'⟩, ⟨?_, ?_, ?_, ?_, h.noS, h.noY, fun k e hk => ?_, fun k e => ?_⟩, hk3, hb⟩
  · refine hJ.stays h.own ((Keeps.refl _ W).alloc _ |>.grown hg (fun b e => .inl (h.noV b e)) |>.setCell _ _ _ (.inl h.noS))
  · exact box'.set 0 _
  · have e1 : ((hund pre).2 ++ [(A, L)]).length = (hund pre).2.length + 1 := by simp
    rw [e1, pcs_append]
    refine own_stands hrow (fun k e => ?_)
    have := own_not_bk hrow box' (by decide)
    rw [heap_setCell w' S 0 _ k (fun e1 => this (by rw [← e1]; exact e))]
  · exact yld'.other 0 _ (fun e => hSY e.symm)
  · rcases hb k e with h1 | h1
    · exact h.noV k h1 hk
    · have := hJ.lt h.own k hk; omega
  · rcases hb k e with h1 | h1
    · exact h.newV k h1
    · omega
section
variable {F : Fence} {P : Program} {a : Act} {w w' : World} {K : Act → World → Prop} {Q : Exit → Act → World → Prop} {dst : Option Tmp} {ty : TypeId} {pos : String} {after : Array Edge} {gd : Option (Nat × Bool)}
theorem keptIn_append (t : TypeId) (x y : Operand) : Oper.wpIn F 0 P { dst := dst, op := .call { callee := .builtin .append, args := #[x, y], argTypes := #[t, t] }, type := ty, pos := pos, after := after, guard := gd } a w K Q = KeptIn F P { dst := dst, op := .call { callee := .builtin .append, args := #[x, y], argTypes := #[t, t] }, type := ty, pos := pos, after := after, guard := gd } a w K Q := rfl
theorem keptIn_append_intro {t : TypeId} (hF : ∀ f, F.fn f) (x y : Operand) (p q v : Value) (hx : a.eval x = p) (hy : a.eval y = q) (hr : (Builtin.append_ #[t, t] ty #[p, q]).run P w = .ok v w') (h : K (a.put dst v) w') : KeptIn F P { dst := dst, op := .call { callee := .builtin .append, args := #[x, y], argTypes := #[t, t] }, type := ty, pos := pos, after := after, guard := gd } a w K Q :=
  keptIn_exec hF (by intro c e; cases e) (by simp [execOp, resolve, invoke, builtin, hx, hy, hr, Result.andThen]) h
end
section
attribute [local go_sem] Oper.semAt_some
attribute [local go_sem ↓] keptIn_append
set_option maxHeartbeats 3200000 in
theorem hundreds_goes (gf : Nat) (lb : Array Value) (eg : ∀ args w, (callFunc gf args).run Tryd.prog w = .ok (.enter gf args) w) (xs : List (Nat × Int)) (Need : Nat → Prop) (w0 w : World) (N Z : Nat) (hseq : GoesOver Tryd.prog gf lb ArgP xs Need w0) (hw0 : Keeps (fun k => ¬ Need k) w0 w) (hN : ∀ k, Need k → k < w0.heap.size) (hNw : N ≤ w.heap.size)
    (hZ : w.cell? ⟨Z, 0, none⟩ = some (.func (.func gf) #[] lb)) : GoesOver Tryd.prog 50 #[.pointer (some ⟨Z, 0, none⟩)] (ArgH N) (hunds xs) (fun k => Need k ∨ k = Z) w := by
  intro l J W H hJ hk hHN hYd h0
  have hcZ : W.cell? ⟨Z, 0, none⟩ = some (.func (.func gf) #[] lb) := by rw [hk.cell _ (World.block_lt_of_cell? w _ hZ) (fun h => h (.inr rfl))]; exact hZ
  have hwW : Keeps (fun k => ¬ Need k) w0 W := hw0.trans hk (fun b _ h1 h2 => h1 (.inl h2))
  have hNW : N ≤ W.heap.size := Nat.le_trans hNw hk.size
  have HHN : Hid (∀ k, H k → ¬ Need k) := fun k h h1 => hHN k h (.inl h1)
  have HJ := hide hJ
  have HW := hide hwW
  have H0 := hide h0
  have HYD := hide hYd
  have HSQ := hide hseq
  have HND := hide hN
  clear hZ hk hHN hwW hYd hJ h0 hseq hN hw0
  show CallsIn Fence.wide 0 Tryd.prog 50 #[.func (.yield l) #[] #[], .pointer (some ⟨Z, 0, none⟩)] W _
  have zZ : Z < W.heap.size := World.block_lt_of_cell? W _ hcZ
  refine callsIn_of_wp_marks Tryd.func50 rfl trivial ((wpIn_wide (n := 0)).2 ?_) rfl
  simp only [Tryd.ntmps50, List.size_toArray, List.length_cons, List.length_nil, Nat.reduceAdd, Nat.reduceSub, Array.replicate_succ, Array.replicate_zero, List.push_toArray, List.append_toArray, List.nil_append, List.cons_append]
  go_wp2_with fail
  obtain ⟨W0, hW0⟩ : ∃ W0, W0 = (W.alloc (.cells #[.func (.yield l) #[] #[]] 100)).alloc (.cells #[.slice none 0 0] 55) := ⟨_, rfl⟩
  have HY0 : Hid (Bk 100 W0 W.heap.size #[.func (.yield l) #[] #[]]) := by show Bk _ _ _ _; rw [hW0]; exact (Bk.new 100 W _).alloc _
  have HS0 : Hid (Bk 55 W0 (W.heap.size + 1) #[.slice none 0 0]) := by show Bk _ _ _ _; rw [hW0]; have := Bk.new 55 (W.alloc (.cells #[.func (.yield l) #[] #[]] 100)) #[.slice none 0 0]; rwa [World.size_alloc] at this
  have HK0 : Hid (Keeps (fun _ => False) W W0) := by show Keeps _ _ _; rw [hW0]; exact ((Keeps.refl _ W).alloc _).alloc _
  have hs0 : W0.heap.size = W.heap.size + 2 := by rw [hW0]; simp
  rw [← hW0]
  clear hW0
  have HSZ : Hid (∀ k, H k → k < W.heap.size) := HJ.out.lt H0.out
  refine (wpIn_wide (n := 0)).1 (wpIn_rangeAll (gf := gf) (lb := lb) rfl eg HSQ.out (HW.out.trans HK0.out (fun _ _ h => h.elim)) HND.out rfl (HunJ W.heap.size N (W.heap.size + 1) W.heap.size l J) (HunJ.held HJ.out) (HunH (W.heap.size + 1) W.heap.size H (.slice none 0 0)) ?_ ?_ ?round ?done)
  · intro k hk hn
    have h1 := HND.out k hn
    have h2 := HW.out.size
    rcases hk with h | h | h | h
    · exact HHN.out k h hn
    · omega
    · omega
    · cases h
  · refine ⟨H, .slice none 0 0, fun k => Iff.rfl, HJ.out.stays H0.out (HK0.out.mono (fun _ _ h => h.elim)), HS0.out, own_nil _ _ _ _, HY0.out, fun h => ?_, fun h => ?_, (fun k h => by cases h), fun k h => by cases h⟩
    · have := HSZ.out _ h; omega
    · have := HSZ.out _ h; omega
  case round =>
    clear HY0 HS0 H0
    rintro l9 pre x v9 G Hc W9 hx ⟨H1, v, hH, hi⟩ hkw ⟨rfl, hG0⟩ hG hl hGl hlt hwl
    have HKW : Hid (Keeps H W W9) := (HK0.out.mono (fun _ _ h => h.elim)).trans hkw (fun b hb h => by
      rcases h with h | h | h | h
      · exact h
      · omega
      · omega
      · cases h)
    have HI := hide hi
    have HX := hide hx
    have HH := hide hH
    have hl1 : ¬ HunH (W.heap.size + 1) W.heap.size H1 v l9 := fun h => hl ((hH _).2 h)
    clear hi hx hH hG hG0 hGl hl
    obtain ⟨xA, xL⟩ := x
    unfold pfV
    gi_wp2
    refine ⟨(Keeps.refl _ W9).alloc _, fun o => ?_⟩
    have HI2 := hide (HI.out.stays HJ.out (((Keeps.refl _ W9).alloc (.cells #[.int .u32 (xA : Int), .int .i64 xL] 29)).putObj l9 o (.inl hl1)))
    have HP2 : Hid (Bk 29 ((W9.alloc (.cells #[.int .u32 (xA : Int), .int .i64 xL] 29)).putObj l9 o) W9.heap.size #[.int .u32 (xA : Int), .int .i64 xL]) := (Bk.new 29 W9 _).keeps (F := fun k => k = l9) ((Keeps.refl _ _).putObj l9 o (.inl rfl)) (fun e => by omega)
    have hs2 : ((W9.alloc (.cells #[.int .u32 (xA : Int), .int .i64 xL] 29)).putObj l9 o).heap.size = W9.heap.size + 1 := by simp
    have hNb : N ≤ W9.heap.size := by have := HI.out.box.lt; omega
    have HKW6 : Hid (Keeps H W ((W9.alloc (.cells #[.int .u32 (xA : Int), .int .i64 xL] 29)).putObj l9 o)) := (HKW.out.alloc _).putObj l9 o (.inr (by omega))
    have HNV := hide HI.out.newV
    clear HI hl1 HKW
    generalize (W9.alloc (.cells #[.int .u32 (xA : Int), .int .i64 xL] 29)).putObj l9 o = Wb at *
    obtain ⟨a, c, w5, hrun, ⟨box5, yld5⟩, M6, k6, hob⟩ := hun_app HJ.out HI2.out (by omega) (by have := HI2.out.yld.lt; omega) xA xL
    rw [hs2] at hrun
    have HRUN := hide hrun
    have HB5 := hide box5
    have cY5 : w5.cell? ⟨W.heap.size, 0, none⟩ = some (.func (.yield l) #[] #[]) := yld5.cell 0 rfl
    clear yld5
    have HM6 := hide M6
    have HK6 := hide k6
    have HOB := hide hob
    have hlen : (hund pre).2.length < 100 := hund_lt pre
    have HN := hide (show ((hund pre).2 ++ [(xA, xL)]).length = (hund pre).2.length + 1 by simp)
    clear hrun box5 M6 k6 hob
    generalize hn : (hund pre).2.length = n at *
    have HNN := hide hn
    clear hn
    have cS : Wb.cell? ⟨W.heap.size + 1, 0, none⟩ = some v := HI2.out.box.cell 0 rfl
    have cp0 : Wb.cell? ⟨W9.heap.size, 0, none⟩ = some (.int .u32 (xA : Int)) := HP2.out.cell 0 rfl
    have cp1 : Wb.cell? ⟨W9.heap.size, 1, none⟩ = some (.int .i64 xL) := HP2.out.cell 1 rfl
    have cS5 : w5.cell? ⟨W.heap.size + 1, 0, none⟩ = some v := HB5.out.cell 0 rfl
    have fS5 : w5.frozen? ⟨W.heap.size + 1, 0, none⟩ = false := HB5.out.frozen 0
    by_cases h100 : n + 1 < 100
    · have j1 : (n : Int) + 1 < 100 := by omega
      gi_wp2
      refine keptIn_append_intro (fun _ => trivial) _ _ v _ _ (by rfl) (by rfl) HRUN.out ?_
      gi_wp2
      have HM7 := HM6
      generalize w5.setCell ⟨W.heap.size + 1, 0, none⟩ (.slice a (n + 1) c) = w6 at *
      have cS6 : w6.cell? ⟨W.heap.size + 1, 0, none⟩ = some (.slice a (n + 1) c) := HM7.out.box.cell 0 rfl
      gi_wp2
      have e9 : hund (pre ++ [(xA, xL)]) = ((hund pre).1, (hund pre).2 ++ [(xA, xL)]) := by
        rw [hund_snoc]
        unfold hundS
        rw [if_pos (by rw [HN.out]; exact h100)]
      refine ⟨HunH (W.heap.size + 1) W.heap.size H1 (.slice a (n + 1) c), ⟨H1, _, fun k => Iff.rfl, ⟨by rw [e9]; exact HM7.out.own, HM7.out.box, by rw [e9]; exact HM7.out.row, HM7.out.yld, HM7.out.noS, HM7.out.noY, HM7.out.noV, HM7.out.newV⟩⟩, HK6.out.mono (fun k _ hk => .inl ((HH.out k).2 (by rcases hk with h | h; exact .inr (.inl h); exact .inr (.inr (.inr h))))), fun k hk => ?_⟩
      rcases hk with h | h | h | h
      · exact .inl ((HH.out k).2 (.inl h))
      · exact .inl ((HH.out k).2 (.inr (.inl h)))
      · exact .inl ((HH.out k).2 (.inr (.inr (.inl h))))
      · rcases HOB.out k h with h1 | h1
        · exact .inl ((HH.out k).2 (.inr (.inr (.inr h1))))
        · exact .inr (.inr (by omega))
    · have j1 : ¬ (n : Int) + 1 < 100 := by omega
      have hs6 := HK6.out.size
      have h99 : ¬ ((hund pre).2 ++ [(xA, xL)]).length < 100 := by rw [HN.out]; exact h100
      have H99 := hide h99
      have hy9 := HYD.out (hund pre).1 ((hund pre).2 ++ [(xA, xL)]) (.slice a (n + 1) c) (fun k => (Value.slice a (n + 1) c).ownBlock = some k) H1 (w5.setCell ⟨W.heap.size + 1, 0, none⟩ (.slice a (n + 1) c)) (by obtain ⟨rest, e⟩ := HX.out; rw [e]; exact hund_next pre rest (xA, xL) h99) HM6.out.own (HKW6.out.trans HK6.out (fun b hb h => by
        rcases h with h | h
        · omega
        · have := HNV.out b h; omega)) ⟨HM6.out.row, fun k => Iff.rfl⟩ (fun k hk => HM6.out.noV k hk)
      obtain ⟨fn9, tmps9, assign9, body9, hy, hR⟩ := hy9
      have hR2 := hide hR
      clear hR h99
      gi_wp2
      refine keptIn_append_intro (fun _ => trivial) _ _ v _ _ (by rfl) (by rfl) HRUN.out ?_
      gi_wp2
      refine ⟨rfl, (show RoundIn (Fence.wide.inRound l9) 0 Tryd.prog l fn9 tmps9 assign9 body9 _ _ from hR2.out).mono ?_⟩
      clear hR2 hy
      rintro e w7 ⟨rfl, H5, j5, k5, s5⟩
      have B7 := HM6.out.box.keeps k5 HM6.out.noS
      have Y7 := HM6.out.yld.keeps k5 HM6.out.noY
      have cS7 : w7.cell? ⟨W.heap.size + 1, 0, none⟩ = some (.slice a (n + 1) c) := B7.cell 0 rfl
      have fS7 : w7.frozen? ⟨W.heap.size + 1, 0, none⟩ = false := B7.frozen 0
      have nS : ¬ H5 (W.heap.size + 1) := fun h => by
        rcases s5 _ h with h1 | h1 | h1
        · exact HM6.out.noS h1
        · exact own_not_bk HM6.out.row HM6.out.box (by decide) h1
        · have := HM6.out.box.lt; omega
      have nY : ¬ H5 W.heap.size := fun h => by
        rcases s5 _ h with h1 | h1 | h1
        · exact HM6.out.noY h1
        · exact own_not_bk HM6.out.row HM6.out.yld (by decide) h1
        · have := HM6.out.yld.lt; omega
      have e9 : hund (pre ++ [(xA, xL)]) = ((hund pre).1 ++ [(hund pre).2 ++ [(xA, xL)]], []) := by
        rw [hund_snoc]
        unfold hundS
        rw [if_neg H99.out]
      have HI9 : Hid (HunI W.heap.size N (W.heap.size + 1) W.heap.size l J (pre ++ [(xA, xL)]) H5 (.slice none 0 0) (w7.setCell ⟨W.heap.size + 1, 0, none⟩ (.slice none 0 0))) :=
        ⟨by rw [e9]; exact HJ.out.stays j5 ((Keeps.refl _ _).setCell _ _ _ (.inl nS)), B7.set 0 _, by rw [e9]; exact own_nil _ _ _ _, Y7.other 0 _ (by omega), nS, nY, (fun k h => by cases h), fun k h => by cases h⟩
      have HK9 : Hid (Keeps (fun k => Hc k ∨ W9.heap.size ≤ k) Wb (w7.setCell ⟨W.heap.size + 1, 0, none⟩ (.slice none 0 0))) := by
        refine Keeps.setCell (Keeps.trans (HK6.out.mono (fun k _ hk => .inl ((HH.out k).2 (by rcases hk with h | h; exact .inr (.inl h); exact .inr (.inr (.inr h)))))) k5 (fun b hb h => .inl ((HH.out b).2 (.inl h)))) _ _ _ (.inl (.inl ((HH.out _).2 (.inr (.inl rfl)))))
      have HS9 : Hid (∀ k, HunH (W.heap.size + 1) W.heap.size H5 (.slice none 0 0) k → Hc k ∨ G k ∨ W9.heap.size ≤ k) := fun k hk => by
        rcases hk with h | h | h | h
        · rcases s5 k h with h1 | h1 | h1
          · exact .inl ((HH.out k).2 (.inl h1))
          · rcases HOB.out k h1 with h2 | h2
            · exact .inl ((HH.out k).2 (.inr (.inr (.inr h2))))
            · exact .inr (.inr (by omega))
          · exact .inr (.inr (by omega))
        · exact .inl ((HH.out k).2 (.inr (.inl h)))
        · exact .inl ((HH.out k).2 (.inr (.inr (.inl h))))
        · cases h
      clear j5 k5 s5 B7 Y7 e9
      gi_wp2
      exact ⟨HunH (W.heap.size + 1) W.heap.size H5 (.slice none 0 0), ⟨H5, _, fun k => Iff.rfl, HI9.out⟩, HK9.out, HS9.out⟩
  case done =>
    clear HY0 HS0 H0
    rintro D Hd W9 hD ⟨H1, v, hH, hi⟩ hkd hsd hnD hd
    have HI := hide hi
    have HH := hide hH
    have HKD := hide hkd
    have HSD := hide hsd
    have HND2 := hide hnD
    have HD := hide hd
    clear hi hH hkd hsd hnD hd
    obtain ⟨a, c, rfl⟩ := own_shape HI.out.row
    have cS : W9.cell? ⟨W.heap.size + 1, 0, none⟩ = some (.slice a (hund xs).2.length c) := HI.out.box.cell 0 rfl
    have cY : W9.cell? ⟨W.heap.size, 0, none⟩ = some (.func (.yield l) #[] #[]) := HI.out.yld.cell 0 rfl
    have HK1 : Hid (Keeps H W W9) := (HK0.out.mono (fun _ _ h => h.elim)).trans HKD.out (fun b hb h => by
      rcases h with h | h | h | h
      · exact h
      · omega
      · omega
      · cases h)
    have HS1 : Hid (∀ k, H1 k → H k ∨ W.heap.size ≤ k) := fun k hk => by
      rcases HSD.out k ((HH.out k).2 (.inl hk)) with h | h
      · rcases h with h | h | h | h
        · exact .inl h
        · exact .inr (by omega)
        · exact .inr (by omega)
        · cases h
      · exact .inr (by omega)
    have HV1 : Hid (∀ k, (Value.slice a (hund xs).2.length c).ownBlock = some k → H k ∨ W.heap.size ≤ k) := fun k hk => by
      rcases HSD.out k ((HH.out k).2 (.inr (.inr (.inr hk)))) with h | h
      · rcases h with h | h | h | h
        · exact .inl h
        · exact .inr (by omega)
        · exact .inr (by omega)
        · cases h
      · exact .inr (by omega)
    have hD1 : ¬ H1 D := fun h => HND2.out ((HH.out _).2 (.inl h))
    have hDV : ¬ (Value.slice a (hund xs).2.length c).ownBlock = some D := fun h => HND2.out ((HH.out _).2 (.inr (.inr (.inr h))))
    have hDW : W.heap.size ≤ D := by omega
    have hDL : D < W9.heap.size := (Array.getElem?_eq_some_iff.1 HD.out).1
    have HDV := hide hDV
    clear hDV
    by_cases h0 : (hund xs).2 = []
    · have HHU : Hid (hunds xs = (hund xs).1) := by show _ = _; unfold hunds; rw [h0]; simp [lastH]
      have hz : (hund xs).2.length = 0 := by rw [h0]; rfl
      rw [hz] at cS
      go_wp2
      refine ⟨by simp, .inl ⟨_, _, rfl, run_takeDeferred HD.out, ?_⟩⟩
      exact ⟨_, results_none rfl _ _ _, ⟨_, rfl⟩, H1, by rw [HHU.out]; exact HJ.out.stays HI.out.own ((Keeps.refl _ _).putObj _ _ (.inl hD1)), HK1.out.putObj _ _ (.inr hDW), HS1.out⟩
    · have HHU : Hid (hunds xs = (hund xs).1 ++ [(hund xs).2]) := by show _ = _; unfold hunds lastH; rw [if_neg h0]
      have hy9 := HYD.out (hund xs).1 (hund xs).2 (.slice a (hund xs).2.length c) (fun k => (Value.slice a (hund xs).2.length c).ownBlock = some k) H1 W9 ⟨[], HHU.out⟩ HI.out.own HK1.out ⟨HI.out.row, fun k => Iff.rfl⟩ (fun k hk => HI.out.noV k hk)
      obtain ⟨fn9, tmps9, assign9, body9, hy, hR⟩ := hy9
      have hR2 := hide hR
      have hz : 0 < (hund xs).2.length := by
        cases hq : (hund xs).2 with
        | nil => exact absurd hq h0
        | cons x y => simp
      clear hR h0
      have HLT : Hid ((hund xs).2.length < 100) := hund_lt xs
      generalize (hund xs).2.length = n at *
      have j1 : (0 : Int) < (n : Int) := by omega
      go_upto_region 9 with fail
      refine (wpIn_wide (n := 0)).1 ?_
      gi_wp2
      refine ⟨rfl, hR2.out.mono ?_⟩
      clear hR2 hy
      rintro e w7 ⟨rfl, H5, j5, k5, s5⟩
      have HJ5 := hide j5
      have HK5 : Hid (Keeps H W w7) := HK1.out.trans k5 (fun b hb h => by
        rcases HS1.out b h with h1 | h1
        · exact h1
        · omega)
      have HD5 : Hid (w7.heap[D]? = some (.deferred (some []))) := (k5.block D hDL hD1).trans HD.out
      have HS5 : Hid (∀ k, H5 k → H k ∨ W.heap.size ≤ k) := fun k hk => by
        have hs9 := HK1.out.size
        rcases s5 k hk with h | h | h
        · exact HS1.out k h
        · exact HV1.out k h
        · exact .inr (by omega)
      have hD5 : ¬ H5 D := fun h => by
        rcases s5 D h with h1 | h1 | h1
        · exact hD1 h1
        · exact HDV.out h1
        · omega
      clear j5 k5 s5
      gi_wp2
      go_wp2
      refine ⟨by simp, .inl ⟨_, _, rfl, run_takeDeferred HD5.out, ?_⟩⟩
      exact ⟨_, results_none rfl _ _ _, ⟨_, rfl⟩, H5, by rw [HHU.out]; exact HJ.out.stays HJ5.out ((Keeps.refl _ _).putObj _ _ (.inl hD5)), HK5.out.putObj _ _ (.inr hDW), HS5.out⟩
end
end Go.Proofs.YthigjonagbfbbaaDoor
/- Updates under way in their box: what each leads to, and the row of them. -/
namespace Go.Proofs.YthigjonagbfbbaaDoor
open Go.RowKit
set_option maxRecDepth 100000

/-- An Update. -/
structure Up where
  gone : List (Nat × Int)
  att : At
  nlri : List (Nat × Int)
/-- What holds of whatever world in which the blocks H stand. -/
def Foot (H : Nat → Prop) (W : World) (P : World → Prop) : Prop := ∀ W', Keeps (fun k => ¬ H k) W W' → P W'
theorem Foot.here {H : Nat → Prop} {W : World} {P : World → Prop} (h : Foot H W P) : P W := h W (Keeps.refl _ _)
theorem Foot.later {H : Nat → Prop} {W W' : World} {P : World → Prop} (h : Foot H W P) (hk : Keeps (fun k => ¬ H k) W W') : Foot H W' P := fun W2 h2 => h W2 (hk.trans h2 (fun _ _ h => h))
theorem Foot.wide {H H' : Nat → Prop} {W : World} {P : World → Prop} (h : Foot H W P) (hH : ∀ k, H k → H' k) : Foot H' W P := fun W2 h2 => h W2 (h2.mono (fun k _ hn h => hn (hH k h)))
/-- An Update's cells. -/
def upC (gv nv : Value) (C : Array Value) : List Value := [gv] ++ C.toList ++ [nv]
/-- An Update that lies there: its nine cells, what they lead to, all new since N. -/
def UpAt (N : Nat) (u : Up) (cs : List Value) (W : World) : Prop := ∃ gv nv pa pc ca cc ra rc, cs = upC gv nv (atC pa pc ca cc ra rc u.att) ∧ W.ownsRow N 29 2 gv u.gone.length (pcs u.gone) ∧ W.ownsRow N 29 2 nv u.nlri.length (pcs u.nlri) ∧ OwnAt W N pa pc ca cc ra rc u.att
theorem UpAt.length {N : Nat} {u : Up} {cs : List Value} {W : World} (h : UpAt N u cs W) : cs.length = 9 := by
  obtain ⟨gv, nv, pa, pc, ca, cc, ra, rc, rfl, _⟩ := h
  rfl
theorem UpAt.one {N : Nat} {u : Up} {cs : List Value} {W : World} (h : UpAt N u cs W) : ∀ v ∈ cs, v.oneCell' = true := by
  obtain ⟨gv, nv, pa, pc, ca, cc, ra, rc, rfl, h1, h2, _⟩ := h
  obtain ⟨a1, c1, rfl⟩ := own_shape h1
  obtain ⟨a2, c2, rfl⟩ := own_shape h2
  intro v hv
  simp [upC, atC] at hv
  rcases hv with rfl | rfl | rfl | rfl | rfl | rfl | rfl | rfl | rfl <;> rfl
/-- Updates in a box L, all new since N; the blocks that they lie in. -/
structure UpsI (N L : Nat) (us : List Up) (He : Nat → Prop) (v : Value) (cs : List (List Value)) (W : World) : Prop where
  len : cs.length = us.length
  box : Bk 50 W L #[v]
  row : W.ownsRow N 57 9 v us.length cs.flatten
  each : Foot He W (fun W' => ∀ (i : Nat) (u : Up) (c : List Value), us[i]? = some u → cs[i]? = some c → UpAt N u c W')
  noL : ¬ He L
  noV : ∀ k, v.ownBlock = some k → ¬ He k
  lt : ∀ k, He k → k < W.heap.size
def UpsH (L : Nat) (He : Nat → Prop) (v : Value) (k : Nat) : Prop := He k ∨ k = L ∨ v.ownBlock = some k
def UpsJ (N L : Nat) (us : List Up) (H : Nat → Prop) (W : World) : Prop := ∃ He v cs, (∀ k, H k ↔ UpsH L He v k) ∧ UpsI N L us He v cs W
theorem UpsI.stays {N L : Nat} {us : List Up} {He : Nat → Prop} {v : Value} {cs : List (List Value)} {W W' : World} (h : UpsI N L us He v cs W) (hk : Keeps (fun k => ¬ UpsH L He v k) W W') : UpsI N L us He v cs W' :=
  ⟨h.len, h.box.keeps hk (fun h1 => h1 (.inr (.inl rfl))), own_stands h.row (fun k e => by
    obtain ⟨cur, hc⟩ := own_blk h.row k e
    exact hk.block k (Array.getElem?_eq_some_iff.1 hc).1 (fun h1 => h1 (.inr (.inr e)))), h.each.later (hk.mono (fun k _ hn h1 => hn (.inl h1))), h.noL, h.noV, fun k hk2 => Nat.lt_of_lt_of_le (h.lt k hk2) hk.size⟩
theorem UpsJ.held {α : Type} {N L : Nat} (f : List α → List Up) : Held (fun s H W => UpsJ N L (f s) H W) := ⟨fun {s H W W'} h hk => by
    obtain ⟨He, v, cs, hH, hi⟩ := h
    exact ⟨He, v, cs, hH, hi.stays (hk.mono (fun k _ hn h1 => hn ((hH k).2 h1)))⟩, fun {s H W} h k hk => by
    obtain ⟨He, v, cs, hH, hi⟩ := h
    rcases (hH k).1 hk with h | rfl | h
    · exact hi.lt k h
    · exact hi.box.lt
    · obtain ⟨cur, hc⟩ := own_blk hi.row k h
      exact (Array.getElem?_eq_some_iff.1 hc).1⟩
theorem elemUp : Elem 50 57 9 152 := ⟨Tryd.underlying50, ⟨_, _, rfl, rfl, rfl, rfl, rfl⟩, by decide, by decide⟩
theorem cell_new_ofL (w : World) (C : Array Value) (t : TypeId) (j : Nat) (u : Value) (hu : C.toList[j]? = some u) : (w.alloc (.cells C t)).cell? ⟨w.heap.size, j, none⟩ = some u := (Bk.new t w C).cell j (by rw [← Array.getElem?_toList]; exact hu)
/-- One more. -/
theorem ups_add {N L : Nat} {us : List Up} {He Hn : Nat → Prop} {v : Value} {cs : List (List Value)} {W : World} (h : UpsI N L us He v cs W) (hN : N ≤ W.heap.size) (hlen : us.length ≤ 100000) (u : Up) (c : List Value) (hu : Foot Hn W (UpAt N u c)) (hL : ¬ Hn L) (hV : ∀ k, v.ownBlock = some k → ¬ Hn k) (hlt : ∀ k, Hn k → k < W.heap.size) :
    ∃ a q w', (Builtin.append_ #[50, 50] 50 #[v, .slice (some ⟨W.heap.size, 0, none⟩) 1 1]).run Tryd.prog (W.alloc (.cells c.toArray 57)) = .ok (.slice a (us.length + 1) q) w' ∧ Bk 50 w' L #[v] ∧
      UpsI N L (us ++ [u]) (fun k => He k ∨ Hn k) (.slice a (us.length + 1) q) (cs ++ [c]) (w'.setCell ⟨L, 0, none⟩ (.slice a (us.length + 1) q)) ∧ Keeps (fun k => k = L ∨ v.ownBlock = some k) W (w'.setCell ⟨L, 0, none⟩ (.slice a (us.length + 1) q)) ∧
      ∀ k, (Value.slice a (us.length + 1) q).ownBlock = some k → v.ownBlock = some k ∨ W.heap.size ≤ k := by
  have hu0 := hu.here
  have hc9 := hu0.length
  obtain ⟨v', w', hr, hrow, hbel, hg, hob⟩ := app_more elemUp (h.row.alloc (.cells c.toArray 57)) (by simp; omega) ⟨W.heap.size, 0, none⟩ 1 1 c (by omega) (fun j x hx => by
    rw [Addr.add_mid, Nat.zero_add]
    exact cell_new_ofL W _ _ j x (by simpa using hx)) hu0.one (by omega)
  obtain ⟨a, q, rfl⟩ := own_shape hrow
  have hsz : (W.alloc (.cells c.toArray 57)).heap.size = W.heap.size + 1 := by simp
  have hk2 : Keeps (fun k => k = L ∨ v.ownBlock = some k) W w' := ((Keeps.refl _ W).alloc (.cells c.toArray 57)).grown hg (fun b e => .inl (.inr e))
  have hk3 : Keeps (fun k => k = L ∨ v.ownBlock = some k) W (w'.setCell ⟨L, 0, none⟩ (.slice a (us.length + 1) q)) := hk2.setCell _ _ _ (.inl (.inl rfl))
  have hnL := own_not_bk h.row h.box (by decide)
  have hb : ∀ k, (Value.slice a (us.length + 1) q).ownBlock = some k → v.ownBlock = some k ∨ W.heap.size ≤ k := fun k e => by
    rcases hob with h1 | h1
    · exact .inl (by rw [← h1]; exact e)
    · rw [h1, hsz] at e
      injection e with e
      exact .inr (by omega)
  have box' : Bk 50 w' L #[v] := (h.box.alloc _).keeps (F := fun k => v.ownBlock = some k) ((Keeps.refl _ _).grown hg (fun b e => .inl e)) hnL
  have keepE : ∀ H : Nat → Prop, ¬ H L → (∀ k, v.ownBlock = some k → ¬ H k) → Keeps (fun k => ¬ H k) W (w'.setCell ⟨L, 0, none⟩ (.slice a (us.length + 1) q)) := fun H h1 h2 => hk3.mono (fun k _ hk hH => by
    rcases hk with rfl | hk
    · exact h1 hH
    · exact h2 k hk hH)
  refine ⟨a, q, w', hr, box', ⟨?_, box'.set 0 _, ?_, ?_, ?_, ?_, ?_⟩, hk3, hb⟩
  · simp [h.len]
  · have e1 : (us ++ [u]).length = us.length + 1 := by simp
    rw [e1, List.flatten_append, show [c].flatten = c by simp]
    refine own_stands hrow (fun k e => ?_)
    have := own_not_bk hrow box' (by decide)
    rw [heap_setCell w' L 0 _ k (fun e1 => this (by rw [← e1]; exact e))]
  · intro W2 h2 i u2 c2 hi hci
    have f1 := (h.each.later (keepE He h.noL h.noV)) W2 (h2.mono (fun k _ hn h => hn (.inl h)))
    have f2 := (hu.later (keepE Hn hL hV)) W2 (h2.mono (fun k _ hn h => hn (.inr h)))
    rcases Nat.lt_or_ge i us.length with hlt2 | hge
    · rw [List.getElem?_append_left hlt2] at hi
      rw [List.getElem?_append_left (by rw [h.len]; exact hlt2)] at hci
      exact f1 i u2 c2 hi hci
    · rw [List.getElem?_append_right hge] at hi
      rw [List.getElem?_append_right (by rw [h.len]; exact hge), h.len] at hci
      have h0 : i - us.length = 0 := by
        rcases Nat.eq_zero_or_pos (i - us.length) with h0 | h0
        · exact h0
        · rw [List.getElem?_eq_none (by simp; omega)] at hi; cases hi
      rw [h0] at hi hci
      simp at hi hci
      subst hi hci
      exact f2
  · rintro (h1 | h1)
    · exact h.noL h1
    · exact hL h1
  · rintro k e (h1 | h1)
    · rcases hb k e with h2 | h2
      · exact h.noV k h2 h1
      · have := h.lt k h1; omega
    · rcases hb k e with h2 | h2
      · exact hV k h2 h1
      · have := hlt k h1; omega
  · rintro k (h1 | h1)
    · exact Nat.lt_of_lt_of_le (h.lt k h1) hk3.size
    · exact Nat.lt_of_lt_of_le (hlt k h1) hk3.size
end Go.Proofs.YthigjonagbfbbaaDoor
