/- What peers are told (plain), and a map of it, by prefix. -/
import Derived.Test.YthigjonagbfbbaaDoorKAk
import Derived.Test.YthigjonagbfbbaaDoorKAr
import Derived.Maps.RangeRun
import Derived.WideKeyRuns
import Derived.Deep.DeepCutAuto
namespace Go.Proofs.YthigjonagbfbbaaDoor
open Go.RowKit Go.ChangeMaps Go.MapKept
set_option maxRecDepth 100000

/-- What is told: a prefix, and the cells of its attributes. -/
structure Tl where
  A : Nat
  L : Int
  C : Array Value
abbrev pfV (A : Nat) (L : Int) : Value := .agg #[.int .u32 (A : Int), .int .i64 L]
def tlC (t : Tl) : Array Value := #[.int .u32 (t.A : Int), .int .i64 t.L] ++ t.C
def TC (C : Array Value) : Prop := C.size = 9 ∧ C.all (·.oneCell') = true
theorem tlC_ok {t : Tl} (h : AC t.C) : TC (tlC t) := ⟨by simp [tlC, h.1], by
  have h2 := h.2
  unfold tlC
  rw [Array.all_eq_true'] at h2 ⊢
  intro x hx
  rcases Array.mem_append.1 hx with hx | hx
  · simp only [List.mem_toArray, List.mem_cons, List.not_mem_nil, or_false] at hx
    rcases hx with rfl | rfl <;> rfl
  · exact h2 x hx⟩
theorem tlC_get (t : Tl) (j : Nat) : (tlC t)[2 + j]? = t.C[j]? := by
  unfold tlC
  rw [Array.getElem?_append_right (by simp)]
  simp
theorem tlC_0 (t : Tl) : (tlC t)[0]? = some (.int .u32 (t.A : Int)) := by
  unfold tlC
  rw [Array.getElem?_append_left (by simp)]
  rfl
theorem tlC_1 (t : Tl) : (tlC t)[1]? = some (.int .i64 t.L) := by
  unfold tlC
  rw [Array.getElem?_append_left (by simp)]
  rfl
/-- What is told of a prefix: the last one counts. -/
def byP (l : List Tl) : Nat → Int → Option (Array Value) := l.foldl (fun f t => fun A L => if A = t.A ∧ L = t.L then some t.C else f A L) (fun _ _ => none)
theorem byP_snoc (l : List Tl) (t : Tl) (A : Nat) (L : Int) : byP (l ++ [t]) A L = if A = t.A ∧ L = t.L then some t.C else byP l A L := by unfold byP; rw [List.foldl_append]; rfl
theorem byP_mem (l : List Tl) (A : Nat) (L : Int) (C : Array Value) (h : byP l A L = some C) : ∃ t ∈ l, t.A = A ∧ t.L = L ∧ t.C = C := by
  have key : ∀ m : List Tl, byP m.reverse A L = some C → ∃ t ∈ m, t.A = A ∧ t.L = L ∧ t.C = C := by
    intro m
    induction m with
    | nil => intro h; cases h
    | cons t m ih =>
      intro h
      rw [List.reverse_cons, byP_snoc] at h
      split at h
      · rename_i h1
        exact ⟨t, by simp, h1.1.symm, h1.2.symm, by injection h⟩
      · obtain ⟨x, hx, e⟩ := ih h
        exact ⟨x, List.mem_cons_of_mem _ hx, e⟩
  have := key l.reverse (by rw [List.reverse_reverse]; exact h)
  simpa using this
theorem byP_none (l : List Tl) (A : Nat) (L : Int) (h : byP l A L = none) : ∀ t ∈ l, ¬ (t.A = A ∧ t.L = L) := by
  have key : ∀ m : List Tl, byP m.reverse A L = none → ∀ t ∈ m, ¬ (t.A = A ∧ t.L = L) := by
    intro m
    induction m with
    | nil => intro _ t ht; cases ht
    | cons x m ih =>
      intro h t ht
      rw [List.reverse_cons, byP_snoc] at h
      split at h
      · cases h
      · rename_i h1
        rcases List.mem_cons.1 ht with rfl | ht
        · exact fun e => h1 ⟨e.1.symm, e.2.symm⟩
        · exact ih h t ht
  have := key l.reverse (by rw [List.reverse_reverse]; exact h)
  simpa using this

def updP (f : Nat → Int → Option (Array Value)) (A : Nat) (L : Int) (C : Array Value) (A' : Nat) (L' : Int) : Option (Array Value) := if A' = A ∧ L' = L then some C else f A' L'
theorem byP_upd (l : List Tl) (t : Tl) : byP (l ++ [t]) = updP (byP l) t.A t.L t.C := by
  funext A L
  rw [byP_snoc]
  rfl
/-! ### Keys -/
theorem pfV_inj {A A' : Nat} {L L' : Int} (h : pfV A L = pfV A' L') : A = A' ∧ L = L' := by
  unfold pfV at h
  simp only [Value.agg.injEq, Array.mk.injEq, List.cons.injEq, Value.int.injEq, true_and, and_true] at h
  exact ⟨by omega, h.2⟩
theorem run_pcheck (em : Bool) (A : Nat) (L : Int) (w : World) : (Instr.checkKey em 10000 29 (pfV A L)).run Tryd.prog w = .ok () w := by kernel_rfl
theorem run_peq (A A' : Nat) (L L' : Int) (w : World) : (Op.equal 29 (pfV A L) (pfV A' L')).run Tryd.prog w = .ok (decide (A = A') && decide (L = L')) w := by
  by_cases g : A = A'
  · by_cases k : L = L'
    · subst g k; simp [Op.equal, Op.maxDepth, pfV, go_sem]
    · subst g
      simp [Op.equal, Op.maxDepth, pfV, go_sem, k]
  · have g' : ¬ (A : Int) = (A' : Int) := by omega
    simp [Op.equal, Op.maxDepth, pfV, go_sem, g, g']
theorem pwide : (match Tryd.prog.underlying 29 with | some (.array _ _) | some (.struct _) => true | _ => false) = true := by kernel_rfl
theorem run_pfindA (A : Nat) (L : Int) : ∀ (es : List MapEntry) (i : Nat), (∀ e ∈ es, ∃ A' L', e.key = pfV A' L') →
    ((∀ w, (Instr.findAsking 29 (pfV A L) es i).run Tryd.prog w = .ok none w) ∧ ∀ e ∈ es, e.key ≠ pfV A L) ∨ ∃ j e, (∀ w, (Instr.findAsking 29 (pfV A L) es i).run Tryd.prog w = .ok (some (i + j, e.val)) w) ∧ es[j]? = some e ∧ e.key = pfV A L
  | [], i, _ => .inl ⟨fun w => by simp [Instr.findAsking], by simp⟩
  | e :: es, i, h => by
    obtain ⟨A', L', hk⟩ := h e (by simp)
    by_cases hs : A = A' ∧ L = L'
    · obtain ⟨rfl, rfl⟩ := hs
      exact .inr ⟨0, e, fun w => by simp [Instr.findAsking, hk, run_peq], rfl, hk⟩
    · have hf : (decide (A = A') && decide (L = L')) = false := by
        cases hx : (decide (A = A') && decide (L = L')) with
        | false => rfl
        | true => simp only [Bool.and_eq_true, decide_eq_true_eq] at hx; exact absurd hx hs
      have hne : e.key ≠ pfV A L := fun e1 => hs (by
        rw [hk] at e1
        obtain ⟨h1, h2⟩ := pfV_inj e1
        exact ⟨h1.symm, h2.symm⟩)
      rcases run_pfindA A L es (i + 1) (fun x hx => h x (List.mem_cons_of_mem _ hx)) with ⟨h1, h2⟩ | ⟨j, x, h1, h2, h3⟩
      · refine .inl ⟨fun w => by simp [Instr.findAsking, hk, run_peq, hf, h1], fun x hx => ?_⟩
        rcases List.mem_cons.1 hx with rfl | hx
        · exact hne
        · exact h2 x hx
      · exact .inr ⟨j + 1, x, fun w => by simp [Instr.findAsking, hk, run_peq, hf, h1, Nat.add_comm, Nat.add_left_comm], by simpa using h2, h3⟩
theorem run_pfind (A : Nat) (L : Int) (es : List MapEntry) (h : ∀ e ∈ es, ∃ A' L', e.key = pfV A' L') :
    ((∀ w, (Instr.findKey 29 (pfV A L) es).run Tryd.prog w = .ok none w) ∧ ∀ e ∈ es, e.key ≠ pfV A L) ∨ ∃ j e, (∀ w, (Instr.findKey 29 (pfV A L) es).run Tryd.prog w = .ok (some (j, e.val)) w) ∧ es[j]? = some e ∧ e.key = pfV A L := by
  rcases run_pfindA A L es 0 h with ⟨h1, h2⟩ | ⟨j, e, h1, h2⟩
  · exact .inl ⟨fun w => by rw [run_findKey_eq w pwide]; exact h1 w, h2⟩
  · exact .inr ⟨j, e, fun w => by rw [run_findKey_eq w pwide, h1, Nat.zero_add], h2⟩
theorem run_pstays (A : Nat) (L : Int) (w : World) : (Instr.keyThatStays (pfV A L) (pfV A L)).run Tryd.prog w = .ok (pfV A L) w := by
  have : Instr.sameBits 10000 (pfV A L) (pfV A L) = true := by
    unfold pfV
    show Instr.sameBits (9999 + 1) _ _ = true
    simp [Instr.sameBits]
  simp [Instr.keyThatStays, this]

/-! ### The map -/
/-- Block b is a map that tells f. -/
def PMap (w : World) (b : Nat) (f : Nat → Int → Option (Array Value)) : Prop :=
  ∃ es clock, w.heap[b]? = some (.map es clock) ∧ Stamped es clock ∧ (∀ e ∈ es.toList, ∃ A L C, e.key = pfV A L ∧ e.val = .agg C ∧ f A L = some C) ∧ ∀ A L C, f A L = some C → ∃ e ∈ es.toList, e.key = pfV A L ∧ e.val = .agg C
theorem PMap.keeps {F : Nat → Prop} {w w' : World} {b : Nat} {f : Nat → Int → Option (Array Value)} (h : PMap w b f) (hk : Keeps F w w') (hF : ¬ F b) : PMap w' b f := by
  obtain ⟨es, clock, h1, h2⟩ := h
  exact ⟨es, clock, by rw [hk.block b (Array.getElem?_eq_some_iff.1 h1).1 hF]; exact h1, h2⟩
theorem PMap.later {w w' : World} {b : Nat} {f : Nat → Int → Option (Array Value)} (h : PMap w b f) (hb : Below w.heap.size w w') : PMap w' b f := h.keeps (F := fun _ => False) (Keeps.of_below hb _) id
theorem PMap.lt {w : World} {b : Nat} {f : Nat → Int → Option (Array Value)} (h : PMap w b f) : b < w.heap.size := by
  obtain ⟨es, clock, h1, _⟩ := h
  exact (Array.getElem?_eq_some_iff.1 h1).1
theorem PMap.new (w : World) : PMap (w.alloc (.map #[] 0)) w.heap.size (byP []) :=
  ⟨#[], 0, (heap_alloc w _).1, stamped_empty 0, by simp, fun A L C h => by cases h⟩
/-- What is found at a prefix. -/
def foundC (o : Option (Array Value)) : Array Value := o.getD zA
theorem PMap.look {w : World} {b : Nat} {f : Nat → Int → Option (Array Value)} (h : PMap w b f) (A : Nat) (L : Int) (w' : World) (hw : w'.heap[b]? = w.heap[b]?) :
    (Instr.lookup 101 (.map (some b)) (pfV A L) true).run Tryd.prog w' = .ok (.tuple #[.agg (foundC (f A L)), .bool (f A L).isSome]) w' := by
  obtain ⟨es, clock, h1, h2, h3, h4⟩ := h
  rcases run_pfind A L es.toList (fun e he => by obtain ⟨A', L', C, k, _⟩ := h3 e he; exact ⟨A', L', k⟩) with ⟨f1, f2⟩ | ⟨j, e, f1, f2, f3⟩
  · have hn : f A L = none := by
      cases hf : f A L with
      | none => rfl
      | some C => obtain ⟨e, he, k, _⟩ := h4 A L C hf; exact absurd k (f2 e he)
    rw [hn]
    simp [Instr.lookup, run_underlying Tryd.underlying101, MapKept.run_getObj_map (hw.trans h1), run_pcheck, f1, Result.andThen]
    rfl
  · have he := List.mem_of_getElem? f2
    obtain ⟨A', L', C, k1, k2, k3⟩ := h3 e he
    rw [k1] at f3
    obtain ⟨rfl, rfl⟩ := pfV_inj f3
    rw [k3]
    simp [Instr.lookup, run_underlying Tryd.underlying101, MapKept.run_getObj_map (hw.trans h1), run_pcheck, f1, Result.andThen, k2, foundC]
theorem keeps_setB {w : World} {b : Nat} {es : Array MapEntry} {clock : Nat} (hb : w.heap[b]? = some (.map es clock)) (o : Obj) : Keeps (fun x => x = b) w (setBlock w b o) :=
  ⟨rfl, rfl, rfl, by simp [setBlock], fun k _ hk => heap_setBlock_other hb o hk⟩
theorem PMap.put {w : World} {b : Nat} {f : Nat → Int → Option (Array Value)} (h : PMap w b f) (A : Nat) (L : Int) (C : Array Value) :
    ∃ w', (Instr.mapUpdate 101 (.map (some b)) (pfV A L) (.agg C)).run Tryd.prog w = .ok () w' ∧ PMap w' b (updP f A L C) ∧ Keeps (fun x => x = b) w w' := by
  obtain ⟨es, clock, h1, h2, h3, h4⟩ := h
  rcases run_pfind A L es.toList (fun e he => by obtain ⟨A', L', C, k, _⟩ := h3 e he; exact ⟨A', L', k⟩) with ⟨f1, f2⟩ | ⟨j, e0, f1, f2, f3⟩
  · refine ⟨setBlock w b (.map (es.push ⟨pfV A L, .agg C, clock⟩) (clock + 1)), ?_, ⟨_, _, heap_setBlock_same h1 _, stamped_push h2 f2, fun e he => ?_, fun A' L' C' hf => ?_⟩, keeps_setB h1 _⟩
    · simp [Instr.mapUpdate, run_underlying Tryd.underlying101, MapKept.run_getObj_map h1, run_pcheck, f1, MapKept.run_setObj_map _ h1, Result.andThen, setBlock]
    · simp only [Array.toList_push, List.mem_append, List.mem_singleton] at he
      rcases he with he | rfl
      · obtain ⟨A', L', C', k1, k2, k3⟩ := h3 e he
        refine ⟨A', L', C', k1, k2, ?_⟩
        unfold updP
        rw [if_neg]
        · exact k3
        · rintro ⟨rfl, rfl⟩
          exact f2 e he k1
      · exact ⟨A, L, C, rfl, rfl, by unfold updP; rw [if_pos ⟨rfl, rfl⟩]⟩
    · rw [Array.toList_push]
      unfold updP at hf
      split at hf
      · rename_i h5
        obtain ⟨rfl, rfl⟩ := h5
        injection hf with hf
        subst hf
        exact ⟨⟨pfV A' L', .agg C, clock⟩, by simp, rfl, rfl⟩
      · obtain ⟨e, he, k⟩ := h4 A' L' C' hf
        exact ⟨e, List.mem_append_left _ he, k⟩
  · have he0 := List.mem_of_getElem? f2
    have hj : es[j]? = some e0 := by simpa using f2
    have hjl : j < es.toList.length := (List.getElem?_eq_some_iff.1 f2).1
    have hkeyf : ∀ e', es[j]? = some e' → ({ e' with key := pfV A L, val := .agg C } : MapEntry).key = e'.key := fun e' he' => by rw [hj] at he'; cases he'; exact f3.symm
    have hlist : (es.modify j (fun e' => { e' with key := pfV A L, val := .agg C })).toList = es.toList.set j { e0 with key := pfV A L, val := .agg C } := by rw [Array.toList_modify, modify_eq_set _ _ _ _ f2]
    have hkn := ((stamped_iff es clock).1 h2).2.2
    have other : ∀ i x, es.toList[i]? = some x → i ≠ j → x.key ≠ pfV A L := fun i x hi hne e1 => by
      obtain ⟨hil, hix⟩ := List.getElem?_eq_some_iff.1 hi
      obtain ⟨_, hjx⟩ := List.getElem?_eq_some_iff.1 f2
      have hpw := List.pairwise_iff_getElem.1 hkn
      rcases Nat.lt_or_gt_of_ne hne with h | h
      · exact hpw i j hil hjl h (by rw [hix, hjx, e1, f3])
      · exact hpw j i hjl hil h (by rw [hix, hjx, e1, f3])
    refine ⟨setBlock w b (.map (es.modify j (fun e' => { e' with key := pfV A L, val := .agg C })) clock), ?_, ⟨_, _, heap_setBlock_same h1 _, stamped_modify h2 _ _ (fun _ _ => rfl) (fun e' _ he' => hkeyf e' he'), fun e he => ?_, fun A' L' C' hf => ?_⟩, keeps_setB h1 _⟩
    · simp [Instr.mapUpdate, run_underlying Tryd.underlying101, MapKept.run_getObj_map h1, run_pcheck, f1, hj, f3, run_pstays, MapKept.run_setObj_map _ h1, Result.andThen, setBlock]
    · rw [hlist] at he
      obtain ⟨i, hi, ex⟩ := List.getElem_of_mem he
      rw [List.getElem_set] at ex
      split at ex
      · exact ⟨A, L, C, by rw [← ex], by rw [← ex], by unfold updP; rw [if_pos ⟨rfl, rfl⟩]⟩
      · rename_i hne
        have hi' : i < es.toList.length := by simpa using hi
        have hx : es.toList[i]? = some e := by rw [List.getElem?_eq_getElem hi', ex]
        obtain ⟨A', L', C', k1, k2, k3⟩ := h3 e (List.mem_of_getElem? hx)
        refine ⟨A', L', C', k1, k2, ?_⟩
        unfold updP
        rw [if_neg]
        · exact k3
        · rintro ⟨rfl, rfl⟩
          exact other i e hx (fun e1 => hne e1.symm) k1
    · rw [hlist]
      unfold updP at hf
      split at hf
      · rename_i h5
        obtain ⟨rfl, rfl⟩ := h5
        injection hf with hf
        subst hf
        exact ⟨_, List.mem_iff_getElem?.2 ⟨j, List.getElem?_set_self hjl⟩, rfl, rfl⟩
      · rename_i h5
        obtain ⟨e, he, k1, k2⟩ := h4 A' L' C' hf
        obtain ⟨i, hi⟩ := List.getElem?_of_mem he
        have hne : j ≠ i := fun e1 => by
          subst e1
          rw [f2] at hi
          cases hi
          rw [f3] at k1
          obtain ⟨rfl, rfl⟩ := pfV_inj k1
          exact h5 ⟨rfl, rfl⟩
        exact ⟨e, List.mem_iff_getElem?.2 ⟨i, by rw [List.getElem?_set_ne hne]; exact hi⟩, k1, k2⟩
end Go.Proofs.YthigjonagbfbbaaDoor
/- byPrefix: the map of what is told. -/
namespace Go.Proofs.YthigjonagbfbbaaDoor
open Go.RowKit
set_option maxRecDepth 100000

section
variable {P : Program} {a : Act} {w w' : World} {K : Act → World → Prop} {Q : Exit → Act → World → Prop} {dst : Option Tmp} {ty : TypeId} {pos : String} {after : Array Edge} {gd : Option (Nat × Bool)}
theorem keptT_load (x : Operand) : Oper.wp P { dst := dst, op := .load 54 x, type := ty, pos := pos, after := after, guard := gd } a w K Q = Kept P { dst := dst, op := .load 54 x, type := ty, pos := pos, after := after, guard := gd } a w K Q := rfl
theorem keptT_store (x y : Operand) : Oper.wp P { dst := dst, op := .store 54 x y, type := ty, pos := pos, after := after, guard := gd } a w K Q = Kept P { dst := dst, op := .store 54 x y, type := ty, pos := pos, after := after, guard := gd } a w K Q := rfl
theorem keptT_alloc : Oper.wp P { dst := dst, op := .alloc 54, type := ty, pos := pos, after := after, guard := gd } a w K Q = Kept P { dst := dst, op := .alloc 54, type := ty, pos := pos, after := after, guard := gd } a w K Q := rfl
theorem kept_mapU (m x y : Operand) {t : TypeId} : Oper.wp P { dst := dst, op := .mapUpdate t m x y, type := ty, pos := pos, after := after, guard := gd } a w K Q = Kept P { dst := dst, op := .mapUpdate t m x y, type := ty, pos := pos, after := after, guard := gd } a w K Q := rfl
theorem kept_mapU_intro {t : TypeId} (m x y : Operand) (mv xv yv : Value) (hm : a.eval m = mv) (hx : a.eval x = xv) (hy : a.eval y = yv) (hr : (Instr.mapUpdate t mv xv yv).run P w = .ok () w') (h : K (a.put dst undef) w') : Kept P { dst := dst, op := .mapUpdate t m x y, type := ty, pos := pos, after := after, guard := gd } a w K Q := by
  unfold Kept Oper.wp execOp
  simp only [hm, hx, hy, Sem.run_bind, hr, Result.andThen_ok, Sem.run_pure]
  exact h
end
theorem infoT : (Tryd.prog.info? 54).map (·.size) = some 9 := by kernel_rfl
/-- The cells of nothing told. -/
def zT : Array Value := #[.int .u32 0, .int .i64 0, .int .i64 0, .slice none 0 0, .int .u32 0, .int .i64 0, .int .i64 0, .slice none 0 0, .slice none 0 0]
theorem run_allocT (w : World) : (Instr.alloc 54 true (.tuple #[])).run Tryd.prog w = .ok (.pointer (some ⟨w.heap.size, 0, none⟩)) (w.alloc (.cells zT 54)) := by kernel_rfl
/-- The slice's elements are what is told. -/
def TlsRd (w : World) (a : Option Addr) (l : List Tl) : Prop := (0 < l.length → ∃ b off, a = some ⟨b, off, none⟩ ∧ ∀ (i : Nat) (t : Tl), l[i]? = some t → ∀ (j : Nat) (v : Value), (tlC t)[j]? = some v → w.cell? ⟨b, off + i * 9 + j, none⟩ = some v) ∧ ∀ t ∈ l, AC t.C
theorem TlsRd.below {w w' : World} {a : Option Addr} {l : List Tl} (h : TlsRd w a l) (hb : Below w.heap.size w w') : TlsRd w' a l := ⟨fun hp => by
  obtain ⟨b, off, e, hc⟩ := h.1 hp
  refine ⟨b, off, e, fun i t hi j v hv => ?_⟩
  have h1 := hc i t hi j v hv
  rw [hb.cell (p := ⟨b, off + i * 9 + j, none⟩) (World.block_lt_of_cell? w _ h1)]
  exact h1, h.2⟩
theorem run_loadT_at {w : World} {b off : Nat} {t : Tl} {i : Nat} (hc : ∀ (j : Nat) (v : Value), (tlC t)[j]? = some v → w.cell? ⟨b, off + i * 9 + j, none⟩ = some v) (h : AC t.C) : (Instr.loadAt 54 (.pointer (some ⟨b, off + i * 9, none⟩))).run Tryd.prog w = .ok (.agg (tlC t)) w := by
  have := run_loadAt_mid (P := Tryd.prog) w b (off + i * 9) 54 (tlC t).toList _ (fun j v hv => hc j v (by rw [← Array.getElem?_toList]; exact hv)) Tryd.underlying54 rfl (by rw [infoT]; simp [(tlC_ok h).1])
  simpa using this
theorem take_more {α : Type} (l : List α) (k : Nat) (t : α) (h : l[k]? = some t) : l.take (k + 1) = l.take k ++ [t] := by
  rw [List.take_add_one, h]
  rfl
theorem run_makeP (n : Nat) (w : World) : (Instr.makeMap 101 (some (.int .i64 (n : Int)))).run Tryd.prog w = .ok (.map (some w.heap.size)) (w.alloc (.map #[] 0)) := by
  simp [Instr.makeMap, run_underlying Tryd.underlying101, go_sem]
section
attribute [local go_sem ↓] keptT_load keptT_store keptT_alloc keptA_load kept_mapU
set_option maxHeartbeats 3200000 in
theorem byprefix_any (a : Option Addr) (c : Nat) (l : List Tl) (w : World) (hl : l.length ≤ 100000) (h : TlsRd w a l) :
    Calls Tryd.prog 52 #[.slice a l.length c] w fun e w' => ∃ b, e = .returned (.map (some b)) ∧ w.heap.size ≤ b ∧ PMap w' b (byP l) ∧ Below w.heap.size w w' := by
  have hmm := run_makeP
  have HL := hide h
  clear h
  obtain ⟨n, hn⟩ : ∃ n, n = l.length := ⟨_, rfl⟩
  have HN := hide hn
  rw [← hn]
  have hn2 : n ≤ 100000 := by omega
  clear hn hl
  go_enter Tryd.func52, Tryd.ntmps52
  go_wp2_with fail
  obtain ⟨W0, hW0⟩ : ∃ W0, W0 = w.alloc (.map #[] 0) := ⟨_, rfl⟩
  have HM0 : Hid (PMap W0 w.heap.size (byP [])) := by show PMap _ _ _; rw [hW0]; exact PMap.new w
  have HB0 : Hid (Below w.heap.size w W0) := by show Below _ _ _; rw [hW0]; exact (Below.refl _ _).alloc (Nat.le_refl _) _
  rw [← hW0]
  clear hW0 hmm
  obtain ⟨b, hb⟩ : ∃ b, b = w.heap.size := ⟨_, rfl⟩
  rw [← hb] at HM0 ⊢
  have HBB := hide hb
  clear hb
  go_loopw [11] (fun v wr => ∃ k : Nat, v = .int .i64 (k : Int) ∧ k ≤ n ∧ Hid (PMap wr b (byP (l.take k))) ∧ Hid (Below w.heap.size w wr)) (fun v _ => n - (intOf v).toNat)
  case atStart => exact ⟨0, by simp, by omega, by simpa using HM0, HB0⟩
  case round =>
    obtain ⟨k, rfl, hk, HM, HB⟩ := hrel
    clear HM0 HB0
    by_cases hkn : k < n
    · have hk1 : k < l.length := by rw [← HN.out]; exact hkn
      obtain ⟨bb, off, rfl, hc⟩ := (HL.out.below HB.out).1 (by omega)
      have HT := hide (hc k _ (List.getElem?_eq_getElem hk1))
      have HAC := hide (HL.out.2 _ (List.getElem_mem hk1))
      have HTK := hide (take_more l k _ (List.getElem?_eq_getElem hk1))
      generalize l[k] = t at HT HAC HTK
      clear hc hk1
      have j1 : (k : Int) < (n : Int) := by omega
      go_wp2_with fail
      refine kept_load_intro _ _ (.agg (tlC t)) (by rfl) (run_loadT_at (i := k) HT.out HAC.out) ?_
      go_wp2_with fail
      refine kept_alloc_intro _ (run_allocT _) ?_
      go_wp2_with fail
      refine kept_store_intro _ _ _ (.agg (tlC t)) (by rfl) (by rfl) ((Bk.new 54 wr zT).store 54 (tlC_ok HAC.out).1 (by rw [infoT, (tlC_ok HAC.out).1]) (tlC_ok HAC.out).2) ?_
      have HX := hide ((Bk.new 54 wr zT).put (C := tlC t) (tlC_ok HAC.out).1)
      have hb3 : Below wr.heap.size wr ((wr.alloc (.cells zT 54)).setCells wr.heap.size 0 (tlC t).toList) := below_puts ((Below.refl _ _).alloc (Nat.le_refl _) _) (Nat.le_refl _) _
      have HM3 := hide (HM.out.later hb3)
      have HB3 : Hid (Below w.heap.size w ((wr.alloc (.cells zT 54)).setCells wr.heap.size 0 (tlC t).toList)) := HB.out.trans (hb3.mono HB.out.size)
      clear hb3
      generalize (wr.alloc (.cells zT 54)).setCells wr.heap.size 0 (tlC t).toList = w3 at *
      generalize wr.heap.size = X at *
      have p0 : w3.cell? ⟨X, 0, none⟩ = some (.int .u32 (t.A : Int)) := HX.out.cell 0 (tlC_0 t)
      have p1 : w3.cell? ⟨X, 1, none⟩ = some (.int .i64 t.L) := HX.out.cell 1 (tlC_1 t)
      go_wp2_with fail
      refine kept_load_intro _ _ (.agg t.C) (by rfl) (HX.out.load 2 34 _ t.C.toList (fun j v hv => by rw [tlC_get, ← Array.getElem?_toList]; exact hv) Tryd.underlying34 rfl (by rw [infoA]; simp [HAC.out.1]) _ (by simp)) ?_
      go_wp2_with fail
      obtain ⟨w4, hrun, m4, k4⟩ := HM3.out.put t.A t.L t.C
      refine kept_mapU_intro _ _ _ _ _ _ (by rfl) (by rfl) (by rfl) hrun ?_
      have HM4 : Hid (PMap w4 b (byP (l.take (k + 1)))) := by show PMap _ _ _; rw [HTK.out, byP_upd]; exact m4
      have HB4 : Hid (Below w.heap.size w w4) := HB3.out.trans (k4.below _ HB3.out.size (fun x e => by rw [e, HBB.out]; exact Nat.le_refl _))
      clear hrun m4 k4
      go_wp2_with fail
      go_roundw
      case rel => exact ⟨k + 1, by simp, by omega, HM4, HB4⟩
      case measure => simp [intOf]; omega
    · have : k = n := by omega
      subst this
      have HM9 : Hid (PMap wr b (byP l)) := by
        have h9 := HM.out
        rw [List.take_of_length_le (by rw [← HN.out]; exact Nat.le_refl _)] at h9
        exact h9
      go_wp2
      go_ret
      exact ⟨b, rfl, by rw [HBB.out]; exact Nat.le_refl _, HM9.out, HB.out⟩
end
end Go.Proofs.YthigjonagbfbbaaDoor
/- without: the prefixes that are not told any more, one by one. -/
namespace Go.Proofs.YthigjonagbfbbaaDoor
open Go.RowKit
set_option maxRecDepth 100000

theorem without_any (oa fa : Option Addr) (on oc fn fc : Nat) (w : World) : Calls Tryd.prog 36 #[.slice oa on oc, .slice fa fn fc] w fun e w' =>
    e = .returned (.func (.func 51) #[] #[.pointer (some ⟨w.heap.size + 1, 0, none⟩), .pointer (some ⟨w.heap.size, 0, none⟩)]) ∧ w' = (w.alloc (.cells #[.slice oa on oc] 48)).alloc (.cells #[.slice fa fn fc] 48) := by
  go_enter Tryd.func36, Tryd.ntmps36
  go_wp2
  go_ret
  exact ⟨by simp, rfl⟩
theorem unlike_any (oa fa : Option Addr) (on oc fn fc : Nat) (w : World) : Calls Tryd.prog 37 #[.slice oa on oc, .slice fa fn fc] w fun e w' =>
    e = .returned (.func (.func 53) #[] #[.pointer (some ⟨w.heap.size, 0, none⟩), .pointer (some ⟨w.heap.size + 1, 0, none⟩)]) ∧ w' = (w.alloc (.cells #[.slice oa on oc] 48)).alloc (.cells #[.slice fa fn fc] 48) := by
  go_enter Tryd.func37, Tryd.ntmps37
  go_wp2
  go_ret
  exact ⟨by simp, rfl⟩
/-- A prefix that is handed to a loop. -/
def ArgP (p : Nat × Int) (v : Value) (G : Nat → Prop) (_ : World) : Prop := v = pfV p.1 p.2 ∧ ∀ k, ¬ G k
/-- What is not told any more. -/
def goneB (fresh : List Tl) (t : Tl) : Bool := (byP fresh t.A t.L).isNone
def goneL (old fresh : List Tl) : List (Nat × Int) := (old.filter (goneB fresh)).map fun t => (t.A, t.L)
theorem goneL_yes (l fresh : List Tl) (k : Nat) (t : Tl) (h : l[k]? = some t) (hg : goneB fresh t = true) : goneL (l.take (k + 1)) fresh = goneL (l.take k) fresh ++ [(t.A, t.L)] := by
  rw [take_more l k t h]
  simp [goneL, List.filter_append, hg]
theorem goneL_no (l fresh : List Tl) (k : Nat) (t : Tl) (h : l[k]? = some t) (hg : goneB fresh t = false) : goneL (l.take (k + 1)) fresh = goneL (l.take k) fresh := by
  rw [take_more l k t h]
  simp [goneL, List.filter_append, hg]
theorem goneL_rest (l fresh : List Tl) (k : Nat) (t : Tl) (h : l[k]? = some t) (hg : goneB fresh t = true) : ∃ rest, goneL l fresh = goneL (l.take k) fresh ++ (t.A, t.L) :: rest := by
  refine ⟨goneL (l.drop (k + 1)) fresh, ?_⟩
  have e : l = l.take k ++ t :: l.drop (k + 1) := by
    have h1 := List.take_append_drop k l
    rw [List.drop_eq_getElem_cons (List.getElem?_eq_some_iff.1 h).1] at h1
    rw [(List.getElem?_eq_some_iff.1 h).2] at h1
    exact h1.symm
  conv => lhs; rw [e]
  simp [goneL, List.filter_append, hg]
/-- What an iterator over what is told needs: its two boxes, and what lay when all began. -/
def NeedW (X Y B : Nat) (k : Nat) : Prop := k = X ∨ k = Y ∨ k < B
theorem ac_found {fresh : List Tl} (h : ∀ t ∈ fresh, AC t.C) (A : Nat) (L : Int) : AC (foundC (byP fresh A L)) := by
  unfold foundC
  cases hf : byP fresh A L with
  | none => exact AC.zero
  | some C =>
    obtain ⟨t, ht, _, _, rfl⟩ := byP_mem _ _ _ _ hf
    exact h t ht
section
variable {P : Program} {a : Act} {w w' : World} {K : Act → World → Prop} {Q : Exit → Act → World → Prop} {dst : Option Tmp} {ty : TypeId} {pos : String} {after : Array Edge} {gd : Option (Nat × Bool)}
theorem kept_look {t : TypeId} (m x : Operand) (z : Bool) : Oper.wp P { dst := dst, op := .lookup t m x z, type := ty, pos := pos, after := after, guard := gd } a w K Q = Kept P { dst := dst, op := .lookup t m x z, type := ty, pos := pos, after := after, guard := gd } a w K Q := rfl
theorem kept_look_intro {t : TypeId} (m x : Operand) (z : Bool) (mv xv v : Value) (hm : a.eval m = mv) (hx : a.eval x = xv) (hr : (Instr.lookup t mv xv z).run P w = .ok v w) (h : K (a.put dst v) w) : Kept P { dst := dst, op := .lookup t m x z, type := ty, pos := pos, after := after, guard := gd } a w K Q := by
  unfold Kept Oper.wp execOp
  simp only [hm, hx, Sem.run_bind, hr, Result.andThen_ok, Sem.run_pure]
  exact h
end
section
attribute [local go_sem ↓] keptT_load keptT_store keptT_alloc keptA_load keptA_store keptA_alloc kept_look
set_option maxHeartbeats 3200000 in
theorem without_goes (oa fa : Option Addr) (oc fc X Y B : Nat) (old fresh : List Tl) (wb w : World) (hB : B = wb.heap.size) (hb : Below B wb w) (ho : old.length ≤ 100000) (hf : fresh.length ≤ 100000) (hor : TlsRd wb oa old) (hfr : TlsRd wb fa fresh)
    (hX : w.cell? ⟨X, 0, none⟩ = some (.slice fa fresh.length fc)) (hY : w.cell? ⟨Y, 0, none⟩ = some (.slice oa old.length oc)) :
    GoesOver Tryd.prog 51 #[.pointer (some ⟨X, 0, none⟩), .pointer (some ⟨Y, 0, none⟩)] ArgP (goneL old fresh) (NeedW X Y B) w := by
  intro l J W H hJ hk hHN hYd h0
  refine callsIn_wide.2 ?_
  show Calls Tryd.prog 51 #[.func (.yield l) #[] #[], .pointer (some ⟨X, 0, none⟩), .pointer (some ⟨Y, 0, none⟩)] W _
  have hcX : W.cell? ⟨X, 0, none⟩ = some (.slice fa fresh.length fc) := by rw [hk.cell _ (World.block_lt_of_cell? w _ hX) (fun h => h (.inl rfl))]; exact hX
  have hcY : W.cell? ⟨Y, 0, none⟩ = some (.slice oa old.length oc) := by rw [hk.cell _ (World.block_lt_of_cell? w _ hY) (fun h => h (.inr (.inl rfl)))]; exact hY
  have hbW : Below B wb W := hb.trans (hk.below B (by have := hb.size; omega) (fun b h => by rcases Nat.lt_or_ge b B with h1 | h1; exact absurd (.inr (.inr h1)) h; exact h1))
  subst hB
  have HNX : ¬ H X := fun h => hHN _ h (.inl rfl)
  have HNY : ¬ H Y := fun h => hHN _ h (.inr (.inl rfl))
  have HNB : Hid (∀ k, H k → wb.heap.size ≤ k) := fun k h => by rcases Nat.lt_or_ge k wb.heap.size with h1 | h1; exact absurd (.inr (.inr h1)) (hHN k h); exact h1
  have HJ := hide hJ
  have HB := hide hbW
  have H0 := hide h0
  have HOR := hide hor
  have HFR := hide hfr
  have HYD := hide hYd
  have HACF := hide hfr.2
  clear hX hY hk hHN hb hbW h0 hor hfr hYd hJ
  obtain ⟨n, hn⟩ : ∃ n, n = old.length := ⟨_, rfl⟩
  have HN := hide hn
  rw [← hn] at hcY
  have hn2 : n ≤ 100000 := by omega
  clear hn
  go_enter Tryd.func51, Tryd.ntmps51
  go_wp2_with fail
  refine (byprefix_any fa fc fresh W hf (HFR.out.below HB.out)).mono ?_
  rintro e w1 ⟨m, rfl, hm, m1, b1⟩
  have HM1 := hide m1
  have H1 : Hid (J (goneL (old.take 0) fresh) H w1) := HJ.out.stays H0.out (Keeps.of_below b1 _)
  have HK1 : Hid (Keeps H W w1) := Keeps.of_below b1 _
  have hcY1 : w1.cell? ⟨Y, 0, none⟩ = some (.slice oa n oc) := by rw [b1.cell (p := ⟨Y, 0, none⟩) (World.block_lt_of_cell? W _ hcY)]; exact hcY
  have HSZ : Hid (∀ k, H k → k < W.heap.size) := HJ.out.lt H0.out
  clear m1 b1 H0 hcX hcY
  go_wp2_with fail
  go_loopw [13] (fun v wr => ∃ (k : Nat) (Hc : Nat → Prop), v = .int .i64 (k : Int) ∧ k ≤ n ∧ Hid (J (goneL (old.take k) fresh) Hc wr) ∧ Hid (∀ x, Hc x → H x ∨ (W.heap.size ≤ x ∧ x ≠ m)) ∧ Hid (Keeps H W wr) ∧ Hid (PMap wr m (byP fresh))) (fun v _ => n - (intOf v).toNat)
  case atStart => exact ⟨0, H, by simp, by omega, H1, fun x h => .inl h, HK1, HM1⟩
  case round =>
    obtain ⟨k, Hc, rfl, hk, HJc, HS, HK, HM⟩ := hrel
    clear H1 HK1 HM1 hcY1
    by_cases hkn : k < n
    · have hk1 : k < old.length := by rw [← HN.out]; exact hkn
      have hbw : Below wb.heap.size W wr := HK.out.below _ HB.out.size (fun b h => HNB.out b h)
      obtain ⟨bb, off, rfl, hc⟩ := (HOR.out.below (HB.out.trans hbw)).1 (by omega)
      have HT := hide (hc k _ (List.getElem?_eq_getElem hk1))
      have HAC := hide (HOR.out.2 _ (List.getElem_mem hk1))
      have HGE : Hid (old[k]? = some old[k]) := List.getElem?_eq_getElem hk1
      generalize old[k] = t at HT HAC HGE
      clear hc hk1 hbw
      have j1 : (k : Int) < (n : Int) := by omega
      go_wp2_with fail
      refine kept_load_intro _ _ (.agg (tlC t)) (by rfl) (run_loadT_at (i := k) HT.out HAC.out) ?_
      go_wp2_with fail
      refine kept_alloc_intro _ (run_allocT _) ?_
      go_wp2_with fail
      refine kept_store_intro _ _ _ (.agg (tlC t)) (by rfl) (by rfl) ((Bk.new 54 wr zT).store 54 (tlC_ok HAC.out).1 (by rw [infoT, (tlC_ok HAC.out).1]) (tlC_ok HAC.out).2) ?_
      have HX := hide ((Bk.new 54 wr zT).put (C := tlC t) (tlC_ok HAC.out).1)
      have hb3 : Below wr.heap.size wr ((wr.alloc (.cells zT 54)).setCells wr.heap.size 0 (tlC t).toList) := below_puts ((Below.refl _ _).alloc (Nat.le_refl _) _) (Nat.le_refl _) _
      have HM3 := hide (HM.out.later hb3)
      have HJ3 := hide (HJ.out.stays HJc.out (Keeps.of_below hb3 _))
      have HK3 : Hid (Keeps H W ((wr.alloc (.cells zT 54)).setCells wr.heap.size 0 (tlC t).toList)) := HK.out.trans (Keeps.of_below hb3 (fun _ => False)) (fun _ _ h => h.elim)
      clear hb3 HM HJc HK HT
      generalize (wr.alloc (.cells zT 54)).setCells wr.heap.size 0 (tlC t).toList = w3 at *
      generalize wr.heap.size = X3 at *
      have p0 : w3.cell? ⟨X3, 0, none⟩ = some (.int .u32 (t.A : Int)) := HX.out.cell 0 (tlC_0 t)
      have p1 : w3.cell? ⟨X3, 1, none⟩ = some (.int .i64 t.L) := HX.out.cell 1 (tlC_1 t)
      go_wp2_with fail
      refine kept_look_intro _ _ _ _ _ _ (by rfl) (by rfl) (HM3.out.look t.A t.L w3 rfl) ?_
      have HFC := hide (ac_found HACF.out t.A t.L)
      have HGB : Hid (goneB fresh t = (byP fresh t.A t.L).isNone) := rfl
      generalize foundC (byP fresh t.A t.L) = C at HFC ⊢
      go_wp2_with fail
      refine kept_alloc_intro _ (run_allocA _) ?_
      go_wp2_with fail
      refine kept_store_intro _ _ _ (.agg C) (by rfl) (by rfl) ((Bk.new 34 w3 zA).store 34 HFC.out.1 (by rw [infoA, HFC.out.1]) HFC.out.2) ?_
      have hb4 : Below w3.heap.size w3 ((w3.alloc (.cells zA 34)).setCells w3.heap.size 0 C.toList) := below_puts ((Below.refl _ _).alloc (Nat.le_refl _) _) (Nat.le_refl _) _
      have HX4 := hide (HX.out.below hb4 HX.out.lt)
      have HM4 := hide (HM3.out.later hb4)
      have HJ4 := hide (HJ.out.stays HJ3.out (Keeps.of_below hb4 _))
      have HK4 : Hid (Keeps H W ((w3.alloc (.cells zA 34)).setCells w3.heap.size 0 C.toList)) := HK3.out.trans (Keeps.of_below hb4 (fun _ => False)) (fun _ _ h => h.elim)
      clear hb4 HM3 HJ3 HK3 HX p0 p1
      generalize (w3.alloc (.cells zA 34)).setCells w3.heap.size 0 C.toList = w4 at *
      generalize w3.heap.size = X4 at *
      have p0 : w4.cell? ⟨X3, 0, none⟩ = some (.int .u32 (t.A : Int)) := HX4.out.cell 0 (tlC_0 t)
      have p1 : w4.cell? ⟨X3, 1, none⟩ = some (.int .i64 t.L) := HX4.out.cell 1 (tlC_1 t)
      cases hz : (byP fresh t.A t.L).isSome with
      | true =>
        have HG : Hid (goneB fresh t = false) := by show _ = _; rw [HGB.out, Option.isNone_eq_false_iff]; exact hz
        clear hz
        go_wp2_with fail
        go_roundw
        case rel => exact ⟨k + 1, Hc, by simp, by omega, by rw [goneL_no old fresh k t HGE.out HG.out]; exact HJ4, HS, HK4, HM4⟩
        case measure => simp [intOf]; omega
      | false =>
        have HG : Hid (goneB fresh t = true) := by show _ = _; rw [HGB.out]; simpa using hz
        clear hz
        go_upto_region 5 with fail
        have hy9 := HYD.out (goneL (old.take k) fresh) (t.A, t.L) (pfV t.A t.L) (fun _ => False) Hc w4 (goneL_rest old fresh k t HGE.out HG.out) HJ4.out HK4.out ⟨rfl, fun _ h => h⟩ (fun _ h => h.elim)
        unfold pfV at hy9
        obtain ⟨fn9, tmps9, assign9, body9, hy, hR⟩ := hy9
        have hR2 := hide hR
        clear hR
        refine (wpIn_wide (n := 0)).1 ?_
        gi_wp2
        refine ⟨rfl, hR2.out.mono ?_⟩
        clear hR2 hy
        rintro e w5 ⟨rfl, H5, j5, k5, s5⟩
        have HJ5 : Hid (J (goneL (old.take (k + 1)) fresh) H5 w5) := by show J _ _ _; rw [goneL_yes old fresh k t HGE.out HG.out]; exact j5
        have hs4 := HK4.out.size
        have HK5 : Hid (Keeps H W w5) := HK4.out.trans k5 (fun b hb h => by
          rcases HS.out b h with h1 | h1
          · exact h1
          · omega)
        have HM5 : Hid (PMap w5 m (byP fresh)) := HM4.out.keeps k5 (fun h => by
          rcases HS.out m h with h1 | h1
          · have := HSZ.out m h1; omega
          · exact h1.2 rfl)
        have HS5 : Hid (∀ x, H5 x → H x ∨ W.heap.size ≤ x ∧ x ≠ m) := fun x hx => by
          rcases s5 x hx with h1 | h1 | h1
          · exact HS.out x h1
          · exact h1.elim
          · have := HM4.out.lt
            exact .inr ⟨by omega, by omega⟩
        clear j5 k5 s5 HM4 HK4 HJ4 hs4
        gi_wp2
        go_wp2
        go_roundw
        case rel => exact ⟨k + 1, H5, by simp, by omega, HJ5, HS5, HK5, HM5⟩
        case measure => simp [intOf]; omega
    · have : k = n := by omega
      subst this
      have HJ9 : Hid (J (goneL old fresh) Hc wr) := by
        have h9 := HJc.out
        rw [List.take_of_length_le (by rw [← HN.out]; exact Nat.le_refl _)] at h9
        exact h9
      go_wp2
      refine bodyPost_end (results_none rfl _ _ _) rfl ⟨⟨_, rfl⟩, Hc, HJ9.out, HK.out, fun x hx => ?_⟩
      rcases HS.out x hx with h | h
      · exact .inl h
      · exact .inr h.1
end
end Go.Proofs.YthigjonagbfbbaaDoor
