/- Things told, by prefix, each once: a row of them that is put in order (plain; its rows). -/
import Derived.Test.YthigjonagbfbbaaDoorKBf
import Derived.Test.YthigjonagbfbbaaDoorExSl
import Derived.Test.YthigjonagbfbbaaDoorKAp
namespace Go.Proofs.YthigjonagbfbbaaDoor
open Go.RowKit
set_option maxRecDepth 100000

abbrev TE := Tl × At
/-- No part is longer than memory can be. -/
structure BigT (a : At) : Prop where
  path : a.path.length ≤ 1152921504606846976
  segs : ∀ s ∈ a.path, s.2.length ≤ 1152921504606846976
  comms : a.comms.length ≤ 1152921504606846976
  raws : a.raws.length ≤ 1152921504606846976
  datas : ∀ r ∈ a.raws, r.2.2.length ≤ 1152921504606846976
def samePB (x y : TE) : Bool := decide (x.1.A = y.1.A ∧ x.1.L = y.1.L)
def lessT (x y : TE) : Bool := lessB x.1.A x.1.L y.1.A y.1.L
def okT (x : TE) : Bool := rightB x.1.A x.1.L && smallA x.2
/-- One that is looked at while x is put in. -/
def insStep (x : TE) (s : List TE × Bool) (y : TE) : List TE × Bool :=
  let s' := if !s.2 && (lessT x y || samePB x y) then (s.1 ++ [x], true) else s
  if samePB y x then s' else (s'.1 ++ [y], s'.2)
def insRun (x : TE) (o : List TE) : List TE × Bool := o.foldl (insStep x) ([], false)
/-- x put in. -/
def insT (x : TE) (o : List TE) : List TE := if (insRun x o).2 then (insRun x o).1 else (insRun x o).1 ++ [x]
def toldStep (o : List TE) (x : TE) : List TE := if o.length < 400 ∧ okT x = true then insT x o else o
/-- Things told, in order. -/
def toldT (l : List TE) : List TE := l.foldl toldStep []
theorem toldT_snoc (l : List TE) (x : TE) : toldT (l ++ [x]) = toldStep (toldT l) x := by unfold toldT; rw [List.foldl_append]; rfl
theorem insRun_snoc (x : TE) (l : List TE) (y : TE) : insRun x (l ++ [y]) = insStep x (insRun x l) y := by unfold insRun; rw [List.foldl_append]; rfl
theorem told_full (o : List TE) (l : List TE) (h : ¬ o.length < 400) : l.foldl toldStep o = o := by
  induction l with
  | nil => rfl
  | cons x l ih =>
    rw [List.foldl_cons]
    have : toldStep o x = o := by unfold toldStep; rw [if_neg (fun h9 => h h9.1)]
    rw [this, ih]
theorem toldT_stop (l : List TE) (j : Nat) (h : ¬ (toldT (l.take j)).length < 400) : toldT (l.take j) = toldT l := by
  have e : toldT l = (l.drop j).foldl toldStep (toldT (l.take j)) := by
    unfold toldT
    rw [← List.foldl_append, List.take_append_drop]
  rw [e, told_full _ _ h]
theorem insRun_len (x : TE) (o : List TE) : (insRun x o).1.length ≤ 2 * o.length := by
  have key : ∀ m : List TE, (insRun x m.reverse).1.length ≤ 2 * m.length := by
    intro m
    induction m with
    | nil => simp [insRun]
    | cons y m ih =>
      rw [List.reverse_cons, insRun_snoc]
      unfold insStep
      simp only [List.length_cons]
      split <;> split <;> (try simp only [List.length_append, List.length_cons, List.length_nil]) <;> omega
  have := key o.reverse
  rwa [List.reverse_reverse, List.length_reverse] at this
/-- All that is put in is of what was there, or it is x. -/
theorem insRun_mem (x : TE) (o : List TE) : ∀ y ∈ (insRun x o).1, y = x ∨ y ∈ o := by
  have key : ∀ m : List TE, ∀ y ∈ (insRun x m.reverse).1, y = x ∨ y ∈ m := by
    intro m
    induction m with
    | nil => intro y hy; cases hy
    | cons z m ih =>
      rw [List.reverse_cons, insRun_snoc]
      intro y hy
      have h1 : y ∈ (insRun x m.reverse).1 ∨ y = x ∨ y = z := by
        unfold insStep at hy
        simp only at hy
        split at hy <;> split at hy <;> (try simp only [List.mem_append, List.mem_cons, List.not_mem_nil, or_false] at hy)
        · rcases hy with h | h
          · exact .inl h
          · exact .inr (.inl h)
        · exact .inl hy
        · rcases hy with (h | h) | h
          · exact .inl h
          · exact .inr (.inl h)
          · exact .inr (.inr h)
        · rcases hy with h | h
          · exact .inl h
          · exact .inr (.inr h)
      rcases h1 with h | h | h
      · rcases ih y h with h | h
        · exact .inl h
        · exact .inr (List.mem_cons_of_mem _ h)
      · exact .inl h
      · exact .inr (by rw [h]; exact List.mem_cons_self)
  intro y hy
  have := key o.reverse y (by rw [List.reverse_reverse]; exact hy)
  simpa using this
theorem insT_mem (x : TE) (o : List TE) : ∀ y ∈ insT x o, y = x ∨ y ∈ o := by
  intro y hy
  unfold insT at hy
  split at hy
  · exact insRun_mem x o y hy
  · rcases List.mem_append.1 hy with h | h
    · exact insRun_mem x o y h
    · rw [List.mem_singleton] at h
      exact .inl h
theorem toldT_mem (l : List TE) : ∀ y ∈ toldT l, y ∈ l ∧ okT y = true := by
  have key : ∀ m : List TE, ∀ y ∈ toldT m.reverse, y ∈ m ∧ okT y = true := by
    intro m
    induction m with
    | nil => intro y hy; cases hy
    | cons z m ih =>
      rw [List.reverse_cons, toldT_snoc]
      intro y hy
      unfold toldStep at hy
      split at hy
      · rename_i h9
        rcases insT_mem z _ y hy with h | h
        · subst h
          exact ⟨List.mem_cons_self, h9.2⟩
        · exact ⟨List.mem_cons_of_mem _ (ih y h).1, (ih y h).2⟩
      · exact ⟨List.mem_cons_of_mem _ (ih y hy).1, (ih y hy).2⟩
  intro y hy
  have := key l.reverse y (by rw [List.reverse_reverse]; exact hy)
  simpa using this
theorem run_bsG (A : Nat) (L : Int) (pa : Option Addr) (pc : Nat) (ca : Option Addr) (cc : Nat) (ra : Option Addr) (rc : Nat) (a : At) (w : World) : (Instr.buildSlice 48 1 #[(0, .agg (tlC ⟨A, L, atC pa pc ca cc ra rc a⟩))]).run Tryd.prog w = .ok (.slice (some ⟨w.heap.size, 0, none⟩) 1 1) (w.alloc (.cells (tlC ⟨A, L, atC pa pc ca cc ra rc a⟩) 54)) := by kernel_rfl
theorem run_bsE {w : World} {p : TE} (h : TlAt w p) (w1 : World) : (Instr.buildSlice 48 1 #[(0, .agg (tlC p.1))]).run Tryd.prog w1 = .ok (.slice (some ⟨w1.heap.size, 0, none⟩) 1 1) (w1.alloc (.cells (tlC p.1) 54)) := by
  obtain ⟨⟨A, L, C⟩, a⟩ := p
  obtain ⟨_, pa, pc, ca, cc, ra, rc, e, _⟩ := h
  simp only at e
  subst e
  exact run_bsG A L pa pc ca cc ra rc a w1
theorem TlAt.ac {w : World} {p : TE} (h : TlAt w p) : AC p.1.C := by
  obtain ⟨_, pa, pc, ca, cc, ra, rc, e, _⟩ := h
  rw [e]
  exact AC.of _ _ _ _ _ _ _
end Go.Proofs.YthigjonagbfbbaaDoor
