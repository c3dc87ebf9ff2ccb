/- A range over a function whose body never ends it: the iterator's contract and the loop's law, by the blocks that each holds. Nothing of the program is named here. -/
import Derived.RangeFuncNested
import Derived.RangeFuncLeaves
import Derived.RangeFuncBound
import Derived.Shelf.Abstract
import Derived.Shelf.RegionOpen
import Derived.WalkKit
import Derived.OwnWalkIn
import Derived.TacticsInMore
import Derived.LoopNIn
import Derived.LoopIn
import Derived.Test.YthigjonagbfbbaaDoorKAa
import Derived.Test.YthigjonagbfbbaaDoorKAk
namespace Go.Proofs.YthigjonagbfbbaaDoor
open Go.RowKit
set_option maxRecDepth 100000

theorem Keeps.putObj {F : Nat → Prop} {w w1 : World} (h : Keeps F w w1) (l : Nat) (o : Obj) (hb : F l ∨ w.heap.size ≤ l) : Keeps F w (w1.putObj l o) :=
  h.grown (grownBy_putObj' w1 l o) (fun b e => by cases e; exact hb)
/-- What a loop's caller holds lies in the blocks H. -/
structure Held {α : Type} (J : List α → (Nat → Prop) → World → Prop) : Prop where
  stays : ∀ {s : List α} {H : Nat → Prop} {W W' : World}, J s H W → Keeps (fun k => ¬ H k) W W' → J s H W'
  lt : ∀ {s : List α} {H : Nat → Prop} {W : World}, J s H W → ∀ k, H k → k < W.heap.size
/-- What a round leaves: what it held is turned alone; it may keep what it was handed. -/
def RoundLeaves {α : Type} (J : List α → (Nat → Prop) → World → Prop) (s : List α) (H G : Nat → Prop) (W : World) (e : Ending) (W' : World) : Prop :=
  e = .returned (.bool true) ∧ ∃ H', J s H' W' ∧ Keeps H W W' ∧ ∀ k, H' k → H k ∨ G k ∨ W.heap.size ≤ k
/-- An iterator that hands xs to whatever loop never ends it. -/
def GoesOver {α : Type} (P : Program) (f : FuncId) (lb : Array Value) (Arg : α → Value → (Nat → Prop) → World → Prop) (xs : List α) (Need : Nat → Prop) (w : World) : Prop :=
  ∀ (l : Nat) (J : List α → (Nat → Prop) → World → Prop) (W : World) (H : Nat → Prop), Held J → Keeps (fun k => ¬ Need k) w W → (∀ k, H k → ¬ Need k) →
    (∀ pre x v G H1 W1, (∃ rest, xs = pre ++ x :: rest) → J pre H1 W1 → Keeps H W W1 → Arg x v G W1 → (∀ k, G k → ¬ H1 k) → YieldAt Fence.wide 0 P l #[v] W1 (RoundLeaves J (pre ++ [x]) H1 G W1)) →
    J [] H W →
    CallsIn Fence.wide 0 P f (#[.func (.yield l) #[] #[]] ++ lb) W fun e W' => (∃ v, e = .returned v) ∧ ∃ H', J xs H' W' ∧ Keeps H W W' ∧ ∀ k, H' k → H k ∨ W.heap.size ≤ k
/-- How a round's body is left: at its end. -/
def goesOn {α : Type} (I : List α → (Nat → Prop) → World → Prop) (s : List α) (H G : Nat → Prop) (W W2 : World) : Exit → Act → World → Prop
  | .normal, _, W' => ∃ H', I s H' W' ∧ Keeps (fun k => H k ∨ W.heap.size ≤ k) W2 W' ∧ ∀ k, H' k → H k ∨ G k ∨ W.heap.size ≤ k
  | _, _, _ => False
/-- The loop. -/
theorem wpIn_rangeAll {α : Type} {P : Program} {g : Operand} {ps : Array Tmp} {assign body : Code} {Q : Exit → Act → World → Prop} {a : Act} {w : World}
    {gf : Nat} {lb : Array Value} (hg : a.eval g = .func (.func gf) #[] lb) (eg : ∀ args w, (callFunc gf args).run P w = .ok (.enter gf args) w)
    {Arg : α → Value → (Nat → Prop) → World → Prop} {xs : List α} {Need : Nat → Prop} {w0 : World} (hseq : GoesOver P gf lb Arg xs Need w0) (hw0 : Keeps (fun k => ¬ Need k) w0 w) (hN : ∀ k, Need k → k < w0.heap.size) (hps : ps.size = 1)
    (I : List α → (Nat → Prop) → World → Prop) (hI : Held I) (H : Nat → Prop) (hHN : ∀ k, H k → ¬ Need k) (h0 : I [] H w)
    (hround : ∀ (l : Nat) (pre : List α) (x : α) (v : Value) (G H1 : Nat → Prop) (W : World), (∃ rest, xs = pre ++ x :: rest) → I pre H1 W → Keeps H w W → Arg x v G W → (∀ k, G k → ¬ H1 k) → ¬ H1 l → ¬ G l → l < W.heap.size → w.heap.size ≤ l →
      assign.wpIn (Fence.wide.inRound l) 0 P (Exit.then (fun a' Wa => Keeps (fun _ => False) W Wa ∧ ∀ o, body.wpIn (Fence.wide.inRound l) 0 P (goesOn I (pre ++ [x]) H1 G W (Wa.putObj l o)) a' (Wa.putObj l o)) (fun _ _ _ => False))
        { tmps := (ps.zip #[v]).foldl (fun t (p, v) => t.setIfInBounds p v) a.tmps, defers := [] } W)
    (hdone : ∀ (D : Nat) (H' : Nat → Prop) (W : World), w.heap.size ≤ D → I xs H' W → Keeps H w W → (∀ k, H' k → H k ∨ w.heap.size ≤ k) → ¬ H' D → W.heap[D]? = some (.deferred (some [])) → Q .normal { a with defers := { target := .collected D, args := #[] } :: a.defers } W) :
    (Code.rangeFunc g ps assign body).wpIn Fence.wide 0 P Q a w := by
  refine wpIn_rangeFunc ?_
  intro fn hfn
  obtain ⟨rec, hrec⟩ : ∃ rec : LoopState → Option Code → Loop, rec = fun st pe => { state := st, pending := pe, fn, tmps := a.tmps, params := ps, assign, body, defers := w.heap.size } := ⟨_, rfl⟩
  obtain ⟨W1, hW1⟩ : ∃ W1, (w.alloc (.deferred (some []))).alloc (.loop (rec .ready none)) = W1 := ⟨_, rfl⟩
  have hL1 : W1.heap[w.heap.size + 1]? = some (.loop (rec .ready none)) := by
    rw [← hW1]; have := World.alloc_heap_new (w.alloc (.deferred (some []))) (.loop (rec .ready none)); rwa [World.size_alloc] at this
  have hK1 : W1.heap[w.heap.size]? = some (.deferred (some [])) := by
    rw [← hW1]; exact (Below.heap_alloc _ _ _ (by simp)).trans (World.alloc_heap_new w _)
  have hk1 : Keeps (fun _ => False) w W1 := by rw [← hW1]; exact ((Keeps.refl _ w).alloc _).alloc _
  have hI1 : I [] H W1 := hI.stays h0 (hk1.mono (fun _ _ h => h.elim))
  have hsz0 := hw0.size
  refine ⟨w.heap.size + 1, [{ target := .collected w.heap.size, args := #[] }], W1, { target := .fn (.func gf) lb, args := #[.func (.yield (w.heap.size + 1)) #[] #[]] }, W1, gf,
    #[.func (.yield (w.heap.size + 1)) #[] #[]] ++ lb, W1, ?_, ?_, ?_, ?_, (fun h => by cases h), ?_⟩
  · rw [← hW1, hrec]; exact run_enterLoop_outer _ _ _ _ _
  · simp only [resolve, hg]
    simp [go_sem]
  · intro f' _; trivial
  · simp [invoke, go_sem, eg]
  · have hHs : ∀ k, H k → k < w.heap.size := fun k hk => hI.lt h0 k hk
    refine (hseq (w.heap.size + 1)
      (fun pre H' W => ∃ H1, (∀ k, H' k ↔ (H1 k ∨ k = w.heap.size + 1 ∨ k = w.heap.size)) ∧ I pre H1 W ∧ ¬ H1 (w.heap.size + 1) ∧ ¬ H1 w.heap.size ∧ W.heap[w.heap.size + 1]? = some (.loop (rec .ready none)) ∧ W.heap[w.heap.size]? = some (.deferred (some [])))
      W1 (fun k => H k ∨ k = w.heap.size + 1 ∨ k = w.heap.size) ⟨?_, ?_⟩
      (hw0.trans hk1 (fun b _ hb => hb.elim))
      (fun k hk hn => by
        rcases hk with hk | rfl | rfl
        · exact hHN k hk hn
        · have := hN _ hn; omega
        · have := hN _ hn; omega)
      ?_ ⟨H, fun k => Iff.rfl, hI1, fun h => by have := hHs _ h; omega, fun h => by have := hHs _ h; omega, hL1, hK1⟩).mono ?_
    · rintro s H' W W' ⟨H1, hH, hi, h1, h2, hl, hd⟩ hk
      have sl : w.heap.size + 1 < W.heap.size := (Array.getElem?_eq_some_iff.1 hl).1
      exact ⟨H1, hH, hI.stays hi (hk.mono (fun k _ hn h => hn ((hH k).2 (.inl h)))), h1, h2, (hk.block _ sl (fun h => h ((hH _).2 (.inr (.inl rfl))))).trans hl, (hk.block _ (by omega) (fun h => h ((hH _).2 (.inr (.inr rfl))))).trans hd⟩
    · rintro s H' W ⟨H1, hH, hi, h1, h2, hl, hd⟩ k hk
      have sl : w.heap.size + 1 < W.heap.size := (Array.getElem?_eq_some_iff.1 hl).1
      rcases (hH k).1 hk with h | rfl | rfl
      · exact hI.lt hi k h
      · exact sl
      · omega
    · rintro pre x v G H' W hx ⟨H1, hH, hi, h1, h2, hl, hd⟩ hkw harg hG
      have hkw2 : Keeps H w W := (hk1.mono (fun _ _ h => h.elim)).trans hkw (fun b hb h => by
        rcases h with h | h | h
        · exact h
        · omega
        · omega)
      have sl : w.heap.size + 1 < W.heap.size := (Array.getElem?_eq_some_iff.1 hl).1
      have hG1 : ∀ k, G k → ¬ H1 k := fun k hg h => hG k hg ((hH k).2 (.inl h))
      have hGl : ¬ G (w.heap.size + 1) := fun h => hG _ h ((hH _).2 (.inr (.inl rfl)))
      have hGD : ¬ G w.heap.size := fun h => hG _ h ((hH _).2 (.inr (.inr rfl)))
      have hy := run_yield (P := P) (args := #[v]) hl (by rw [hrec]; exact hps.symm)
      rw [hrec] at hy
      refine ⟨fn, _, assign, body, hy, roundIn_of_wpIn trivial (wpIn_mono (hround (w.heap.size + 1) pre x v G H1 W hx hi hkw2 harg hG1 h1 hGl sl (by omega)) ?_)⟩
      clear hy
      rintro e a' Wa hp
      cases e with
      | normal =>
        obtain ⟨hka, hbody⟩ := hp
        have hla : Wa.heap[w.heap.size + 1]? = some (.loop (rec .ready none)) := (hka.block _ sl (fun h => h)).trans hl
        have hda : Wa.heap[w.heap.size]? = some (.deferred (some [])) := (hka.block _ (by omega) (fun h => h)).trans hd
        refine ⟨_, run_beginRound hla (by rw [hrec]), wpIn_mono (hbody _) ?_⟩
        clear hbody
        rintro e3 a3 W3 hp
        cases e3 with
        | normal =>
          obtain ⟨H2, hi2, hk2, hs2⟩ := hp
          have n1 : ¬ H2 (w.heap.size + 1) := fun h => by
            rcases hs2 _ h with h | h | h
            · exact h1 h
            · exact hGl h
            · omega
          have n2 : ¬ H2 w.heap.size := fun h => by
            rcases hs2 _ h with h | h | h
            · exact h2 h
            · exact hGD h
            · omega
          have hs1 := hka.size
          have hl2 : (Wa.putObj (w.heap.size + 1) (.loop { rec .ready none with state := .busy })).heap[w.heap.size + 1]? = some (.loop { rec .ready none with state := .busy }) := World.putObj_heap_same (by omega)
          have hd2 : (Wa.putObj (w.heap.size + 1) (.loop { rec .ready none with state := .busy })).heap[w.heap.size]? = some (.deferred (some [])) := (World.putObj_heap_other (by omega)).trans hda
          have hl3 : W3.heap[w.heap.size + 1]? = some (.loop { rec .ready none with state := .busy }) := (hk2.block _ (by simp; omega) (fun h => by rcases h with h | h; exact h1 h; omega)).trans hl2
          have hd3 : W3.heap[w.heap.size]? = some (.deferred (some [])) := (hk2.block _ (by simp; omega) (fun h => by rcases h with h | h; exact h2 h; omega)).trans hd2
          have s3 : w.heap.size + 1 < W3.heap.size := (Array.getElem?_eq_some_iff.1 hl3).1
          refine ⟨_, _, run_endRound none hl3, rfl, fun k => H2 k ∨ k = w.heap.size + 1 ∨ k = w.heap.size, ⟨H2, fun k => Iff.rfl, hI.stays hi2 ((Keeps.refl _ W3).putObj _ _ (.inl n1)), n1, n2, ?_, (World.putObj_heap_other (by omega)).trans hd3⟩, ?_, ?_⟩
          · rw [World.putObj_heap_same s3, hrec]; rfl
          · refine Keeps.putObj (Keeps.trans (w1 := Wa.putObj (w.heap.size + 1) (.loop { rec .ready none with state := .busy })) ?_ hk2 (fun b hb h => ?_)) _ _ (.inl ((hH _).2 (.inr (.inl rfl))))
            · exact Keeps.putObj (hka.mono (fun _ _ h => h.elim)) _ _ (.inl ((hH _).2 (.inr (.inl rfl))))
            · rcases h with h | h
              · exact (hH b).2 (.inl h)
              · omega
          · rintro k (h | rfl | rfl)
            · rcases hs2 k h with h | h | h
              · exact .inl ((hH k).2 (.inl h))
              · exact .inr (.inl h)
              · exact .inr (.inr h)
            · exact .inl ((hH _).2 (.inr (.inl rfl)))
            · exact .inl ((hH _).2 (.inr (.inr rfl)))
        | ret => exact hp.elim
        | exit id => exact hp.elim
        | goto t => exact hp.elim
        | panic ch => exact hp.elim
        | outgrown => exact hp.elim
      | ret => exact hp.elim
      | exit id => exact hp.elim
      | goto t => exact hp.elim
      | panic ch => exact hp.elim
      | outgrown => exact hp.elim
    · rintro e W2 ⟨⟨v, rfl⟩, H', ⟨H2, hH, hi, h1, h2, hl, hd⟩, hk, hs⟩
      refine ⟨none, _, by have := run_endLoop (P := P) hl (by rw [hrec]; simp); rw [hrec] at this; exact this, ?_⟩
      have sl : w.heap.size + 1 < W2.heap.size := (Array.getElem?_eq_some_iff.1 hl).1
      have hsz1 : W1.heap.size = w.heap.size + 2 := by rw [← hW1]; simp
      refine hdone w.heap.size H2 _ (Nat.le_refl _) (hI.stays hi ((Keeps.refl _ W2).putObj _ _ (.inl h1))) ?_ ?_ h2 ((World.putObj_heap_other (by omega)).trans hd)
      · refine Keeps.putObj (Keeps.trans (hk1.mono (fun _ _ h => h.elim)) hk (fun b hb h => ?_)) _ _ (.inr (by omega))
        rcases h with h | h | h
        · exact h
        · omega
        · omega
      · intro k h
        rcases hs k ((hH k).2 (.inl h)) with (h | h | h) | h
        · exact .inl h
        · exact .inr (by omega)
        · exact .inr (by omega)
        · exact .inr (by omega)
end Go.Proofs.YthigjonagbfbbaaDoor
/- Boxes of structs as whole values, of whatever type; the walk is kept from laying their cells open; the same within a range over a function. Nothing of the program is named here. -/
namespace Go.Proofs.YthigjonagbfbbaaDoor
open Go.RowKit
set_option maxRecDepth 100000

/-- A box of type t that holds the cells C. -/
def Bk (t : TypeId) (w : World) (X : Nat) (C : Array Value) : Prop := w.heap[X]? = some (.cells C t (0, 0))
theorem Bk.lt {t : TypeId} {w : World} {X : Nat} {C : Array Value} (h : Bk t w X C) : X < w.heap.size := (Array.getElem?_eq_some_iff.1 h).1
theorem Bk.below {t B : Nat} {w w' : World} {X : Nat} {C : Array Value} (h : Bk t w X C) (hb : Below B w w') (hB : X < B) : Bk t w' X C := by
  unfold Bk
  rw [hb.block X hB]
  exact h
theorem Bk.keeps {t : TypeId} {F : Nat → Prop} {w w' : World} {X : Nat} {C : Array Value} (h : Bk t w X C) (hk : Keeps F w w') (hF : ¬ F X) : Bk t w' X C := by
  unfold Bk
  rw [hk.block X h.lt hF]
  exact h
theorem Bk.cell {t : TypeId} {w : World} {X : Nat} {C : Array Value} (h : Bk t w X C) (j : Nat) {v : Value} (hv : C[j]? = some v) : w.cell? ⟨X, j, none⟩ = some v := by
  unfold Bk at h
  simp [World.cell?, h, hv]
theorem Bk.frozen {t : TypeId} {w : World} {X : Nat} {C : Array Value} (h : Bk t w X C) (j : Nat) : w.frozen? ⟨X, j, none⟩ = false := by
  unfold Bk at h
  simp [World.frozen?, h]
theorem Bk.new (t : TypeId) (w : World) (C : Array Value) : Bk t (w.alloc (.cells C t)) w.heap.size C := by
  unfold Bk World.alloc
  exact Array.getElem?_push_size
theorem Bk.alloc {t : TypeId} {w : World} {X : Nat} {C : Array Value} (h : Bk t w X C) (o : Obj) : Bk t (w.alloc o) X C :=
  h.below ((Below.refl w.heap.size w).alloc (Nat.le_refl _) o) h.lt
theorem Bk.put {t : TypeId} {w : World} {X : Nat} {C C0 : Array Value} (h : Bk t w X C0) (hs : C.size = C0.size) : Bk t (w.setCells X 0 C.toList) X C := by
  have := heap_puts X t C.toList 0 w C0 h
  rw [putA_all C C0 hs] at this
  exact this
theorem Bk.apart {t : TypeId} {w : World} {X Y : Nat} {C : Array Value} {vs : List Value} (h : Bk t w X C) (hne : X ≠ Y) : Bk t (w.setCells Y 0 vs) X C := by
  unfold Bk
  rw [heap_setCells Y vs 0 w X hne]
  exact h
theorem Bk.set {t : TypeId} {w : World} {X : Nat} {C : Array Value} (h : Bk t w X C) (j : Nat) (v : Value) : Bk t (w.setCell ⟨X, j, none⟩ v) X (C.setIfInBounds j v) := heap_setCell_same w X j C _ v h
theorem Bk.other {t : TypeId} {w : World} {X Y : Nat} {C : Array Value} (h : Bk t w X C) (j : Nat) (v : Value) (hne : X ≠ Y) : Bk t (w.setCell ⟨Y, j, none⟩ v) X C := by
  unfold Bk
  rw [heap_setCell w Y j v X hne]
  exact h
theorem Bk.there {t : TypeId} {w : World} {X : Nat} {C : Array Value} (h : Bk t w X C) (n : Nat) (hn : n ≤ C.size) : w.there X 0 n := fun j hj => by
  refine ⟨?_, by rw [Nat.zero_add]; exact h.frozen j⟩
  rw [Nat.zero_add, h.cell j (Array.getElem?_eq_getElem (by omega))]
  rfl
theorem Bk.load {P : Program} {t : TypeId} {w : World} {X : Nat} {C : Array Value} (h : Bk t w X C) (o : Nat) (ty : TypeId) (d : TypeDesc) (cs : List Value) (hs : ∀ j v, cs[j]? = some v → C[o + j]? = some v)
    (hu : P.underlying ty = some d) (hd : d.isRow = true) (hi : (P.info? ty).map (·.size) = some cs.length) (v : Value) (hv : v = .agg cs.toArray) :
    (Instr.loadAt ty (.pointer (some ⟨X, o, none⟩))).run P w = .ok v w := by
  subst hv
  exact run_loadAt_mid (P := P) w X o ty cs d (fun j v hj => h.cell (o + j) (hs j v hj)) hu hd hi
theorem Bk.store {P : Program} {t : TypeId} {w : World} {X : Nat} {C C0 : Array Value} (h : Bk t w X C0) (ty : TypeId) (h0 : C.size = C0.size) (hi : (P.info? ty).map (·.size) = some C.size) (h1 : C.all (·.oneCell') = true) :
    (Instr.storeAt ty (.pointer (some ⟨X, 0, none⟩)) (.agg C)).run P w = .ok () (w.setCells X 0 C.toList) :=
  run_storeAt_mid (P := P) w X 0 ty C (h.there _ (by omega)) hi h1
/-- Within a range over a function: an operation that is kept. -/
def KeptIn (F : Fence) (P : Program) (o : Oper) (a : Act) (w : World) (K : Act → World → Prop) (Q : Exit → Act → World → Prop) : Prop := Oper.wpIn F 0 P o a w K Q
section
variable {F : Fence} {P : Program} {a : Act} {w w' : World} {K : Act → World → Prop} {Q : Exit → Act → World → Prop} {dst : Option Tmp} {ty : TypeId} {pos : String} {after : Array Edge} {gd : Option (Nat × Bool)}
theorem keptIn_exec {o : Oper} {v : Value} (hF : ∀ f, F.fn f) (hd : ∀ c, o.op ≠ .defer c) (hr : (execOp a.eval o).run P w = .ok (.value v) w') (h : K (a.put o.dst v) w') : KeptIn F P o a w K Q := by
  unfold KeptIn Oper.wpIn
  refine ⟨fun f _ => hF f, ?_⟩
  rw [Oper.semAt_plain F _ _ hd, hr]
  exact h
theorem keptIn_load {t : TypeId} (hF : ∀ f, F.fn f) (x : Operand) (p v : Value) (hx : a.eval x = p) (hr : (Instr.loadAt t p).run P w = .ok v w) (h : K (a.put dst v) w) : KeptIn F P { dst := dst, op := .load t x, type := ty, pos := pos, after := after, guard := gd } a w K Q :=
  keptIn_exec hF (by intro c e; cases e) (by unfold execOp; simp only [hx, Sem.run_bind, hr, Result.andThen_ok, Sem.run_pure]) h
theorem keptIn_skip {o : Oper} (hF : ∀ f, F.fn f) (hd : ∀ c, o.op ≠ .defer c) (hr : (execOp a.eval o).run P w = .ok .skip w') (h : K (a.put o.dst undef) w') : KeptIn F P o a w K Q := by
  unfold KeptIn Oper.wpIn
  refine ⟨fun f _ => hF f, ?_⟩
  rw [Oper.semAt_plain F _ _ hd, hr]
  exact h
theorem keptIn_store {t : TypeId} (hF : ∀ f, F.fn f) (x y : Operand) (p v : Value) (hx : a.eval x = p) (hy : a.eval y = v) (hr : (Instr.storeAt t p v).run P w = .ok () w') (h : K (a.put dst undef) w') : KeptIn F P { dst := dst, op := .store t x y, type := ty, pos := pos, after := after, guard := gd } a w K Q := by
  first
    | exact keptIn_skip hF (by intro c e; cases e) (by unfold execOp; simp only [hx, hy, Sem.run_bind, hr, Result.andThen_ok, Sem.run_pure]) h
    | exact keptIn_exec hF (by intro c e; cases e) (by unfold execOp; simp only [hx, hy, Sem.run_bind, hr, Result.andThen_ok, Sem.run_pure]) h
theorem keptIn_alloc {t : TypeId} (hF : ∀ f, F.fn f) (v : Value) (hr : (Instr.alloc t true (.tuple #[])).run P w = .ok v w') (h : K (a.put dst v) w') : KeptIn F P { dst := dst, op := .alloc t, type := ty, pos := pos, after := after, guard := gd } a w K Q :=
  keptIn_exec hF (by intro c e; cases e) (by unfold execOp; simp only [Sem.run_bind, hr, Result.andThen_ok, Sem.run_pure]) h
theorem keptIn_op {o : Oper} {v : Value} (hF : ∀ f, F.fn f) (hd : ∀ c, o.op ≠ .defer c) (hr : (execOp a.eval o).run P w = .ok (.value v) w') (h : K (a.put o.dst v) w') : Oper.wpIn F 0 P o a w K Q := keptIn_exec hF hd hr h
end
/-- A region that draws its order, in a round: by what is shown of it elsewhere. -/
theorem opIn_of_plain {P : Program} {l : Nat} {o : Oper} {a : Act} {w : World} {K : Act → World → Prop} {Q : Exit → Act → World → Prop} (hd : ∀ c, o.op ≠ .defer c) (h : o.wp P a w K Q) : Oper.wpIn (Fence.wide.inRound l) 0 P o a w K Q := by
  unfold Oper.wpIn
  refine ⟨fun f _ => trivial, ?_⟩
  rw [Oper.semAt_plain _ _ _ hd]
  unfold Oper.wp at h
  generalize (execOp a.eval o).run P w = r at h ⊢
  cases r with
  | ok n w' =>
    cases n with
    | value v => exact h
    | skip => exact h
    | defer d => exact h
    | enter f args => exact ⟨(fun h => by cases h), CallsIn.inRound l (callsIn_wide.2 h)⟩
    | row rw args =>
      refine ⟨(fun h => by cases h), fun c cs _ => ?_⟩
      obtain ⟨v, w2, r, s⟩ := h c cs
      exact ⟨v, w2, r, stepsIn_wide.2 s⟩
    | _ => exact h.elim
  | halt x w' => cases x <;> exact h
theorem anyIn_of_plain {P : Program} {l : Nat} {ops : Array Oper} {Q : Exit → Act → World → Prop} {md : Region.Mode} (hd : ∀ (i : Nat) (o : Oper), ops[i]? = some o → ∀ c, o.op ≠ Op.defer c) (hQ : ¬ LetsOut Q) : ∀ (fuel : Nat) (listed : Array Bool) (a : Act) (w : World), wpAny P md ops Q fuel listed a w → wpAnyIn (Fence.wide.inRound l) 0 P md ops Q fuel listed a w
  | 0, _, _, _, h => h
  | fuel + 1, listed, a, w, h => ⟨h.1, fun i hi => by
    have h1 := h.2 i hi
    unfold wpOp at h1
    unfold wpOpIn
    cases ho : ops[i]? with
    | none =>
      rw [ho] at h1
      exact anyIn_of_plain hd hQ fuel _ a w h1
    | some o =>
      rw [ho] at h1
      simp only at h1 ⊢
      split at h1
      · rename_i hw
        rw [if_pos hw]
        rcases h1 with h1 | ⟨_, h1⟩
        · exact Oper.wpIn_mono (fun a' w' h2 => anyIn_of_plain hd hQ fuel _ a' w' h2) (opIn_of_plain (hd i o ho) h1)
        · exact absurd h1 hQ
      · rename_i hw
        rw [if_neg hw]
        exact ⟨fun f _ => trivial, anyIn_of_plain hd hQ fuel _ _ w h1⟩⟩
theorem regionIn_of_any {P : Program} {l id : Nat} {ops : Array Oper} {Q : Exit → Act → World → Prop} {a : Act} {w : World} (hd : ops.all (fun o => match o.op with | .defer _ => false | _ => true) = true) (hQ : ∀ a w, ¬ Q .outgrown a w) (hm : P.follows .mixedOrders = true)
    (h1 : wpAny P .any ops (fun e a w => (∀ c, e ≠ .panic c) ∧ Q e a w) ops.size (Array.replicate ops.size false) a w.drew) : (Code.region id ops true).wpIn (Fence.wide.inRound l) 0 P Q a w := by
  have h2 := anyIn_of_plain (l := l) (fun i o ho c e => by
    have h3 := Array.all_eq_true'.1 hd o (Array.mem_of_getElem? ho)
    rw [e] at h3
    cases h3) (fun ⟨a, w, h9⟩ => hQ a w h9.2) _ _ _ _ h1
  exact wpIn_mono (Q := fun e a w => (∀ c, e ≠ .panic c) ∧ Q e a w) (wpIn_region_any hm h2) (fun _ _ _ h => h.2)
end Go.Proofs.YthigjonagbfbbaaDoor
