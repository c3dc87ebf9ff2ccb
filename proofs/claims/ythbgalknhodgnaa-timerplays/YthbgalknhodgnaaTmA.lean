/- Timers: the map that they keep, of names and moments; what is found, laid into it and taken out of it. -/
import Derived.Test.YthbgalknhodgnaaBase
import Derived.Test.YthbgalknhodgnaaMix
import Derived.Maps.Range
import Derived.Maps.RangeRun
import Derived.ChangeMaps5
import Derived.MapKept
import Derived.Carry
namespace Go.Proofs.Ythbgalknhodgnaa
open Go.RowKit Go.ChangeMaps Go.MapKept
set_option maxRecDepth 100000

/-- A name, and its moment. -/
abbrev Nm := ByteArray × Int
def entN (e : MapEntry) : Nm := match e.key, e.val with
  | .string s, .int _ m => (s, m)
  | _, _ => (⟨#[]⟩, 0)
def IsNm (e : MapEntry) : Prop := e.key = .string (entN e).1 ∧ e.val = .int .i64 (entN e).2
def goneN (n : ByteArray) (x : Nm) : Bool := decide (x.1 = n)
theorem goneN_iff (n : ByteArray) (x : Nm) : goneN n x = true ↔ x.1 = n := by unfold goneN; exact decide_eq_true_iff
theorem goneN_false {n : ByteArray} {x : Nm} (h : x.1 ≠ n) : goneN n x = false := decide_eq_false h
def delN (n : ByteArray) (l : List Nm) : List Nm := l.filter (fun x => !goneN n x)
theorem run_findS (n : ByteArray) (es : List MapEntry) (h : ∀ e ∈ es, IsNm e) :
    ((∀ w, (Instr.findKey 9 (.string n) es).run Try.prog w = .ok none w) ∧ ∀ e ∈ es, (entN e).1 ≠ n) ∨ ∃ j e, (∀ w, (Instr.findKey 9 (.string n) es).run Try.prog w = .ok (some (j, e.val)) w) ∧ es[j]? = some e ∧ (entN e).1 = n := by
  rcases findNow_spec (d := .string) (k := .string n) trivial es 0 (fun x hx => by rw [(h x hx).1]; trivial) with ⟨h1, h2⟩ | ⟨j, e, h1, h2, h3⟩
  · exact .inl ⟨fun w => MapKept.run_findKey Try.underlying9 h1, fun e he e1 => h2 e he (by rw [(h e he).1, e1])⟩
  · refine .inr ⟨j, e, fun w => by rw [MapKept.run_findKey Try.underlying9 h1, Nat.zero_add], h2, ?_⟩
    have := (h e (List.mem_of_getElem? h2)).1
    rw [h3] at this
    exact (Value.string.inj this).symm
theorem run_scheck (em : Bool) (n : ByteArray) (w : World) : (Instr.checkKey em 10000 9 (.string n)).run Try.prog w = .ok () w :=
  MapKept.run_checkKey (d := .string) (k := .string n) Try.underlying9 trivial em 9999
theorem run_sstays (n : ByteArray) (w : World) : (Instr.keyThatStays (.string n) (.string n)).run Try.prog w = .ok (.string n) w := by
  have : Instr.sameBits 10000 (.string n) (.string n) = true := by
    show Instr.sameBits (9999 + 1) _ _ = true
    simp [Instr.sameBits, (bytes_beq n n).2 rfl]
  simp [Instr.keyThatStays, this]
/-- Block b is a map of just the names l in any order, b + 1 the timers' box. -/
def Tmr (w : World) (b : Nat) (l : List Nm) : Prop :=
  ∃ es clock, w.heap[b]? = some (.map es clock) ∧ Stamped es clock ∧ w.heap[b + 1]? = some (.cells #[.map (some b)] 44 (0, 0)) ∧ (∀ e ∈ es.toList, IsNm e) ∧ (es.toList.map entN).Perm l
theorem Tmr.keeps {F : Nat → Prop} {w w' : World} {b : Nat} {l : List Nm} (h : Tmr w b l) (hk : Keeps F w w') (hF : ∀ x, b ≤ x → ¬ F x) : Tmr w' b l := by
  obtain ⟨es, clock, h1, h2, h3, h4, h5⟩ := h
  exact ⟨es, clock, by rw [hk.block b (Array.getElem?_eq_some_iff.1 h1).1 (hF b (Nat.le_refl _))]; exact h1, h2, by rw [hk.block (b + 1) (Array.getElem?_eq_some_iff.1 h3).1 (hF _ (by omega))]; exact h3, h4, h5⟩
/-- What turns neither the map nor the box leaves them. -/
theorem Tmr.keeps2 {F : Nat → Prop} {w w' : World} {b : Nat} {l : List Nm} (h : Tmr w b l) (hk : Keeps F w w') (h0 : ¬ F b) (h9 : ¬ F (b + 1)) : Tmr w' b l := by
  obtain ⟨es, clock, h1, h2, h3, h4, h5⟩ := h
  exact ⟨es, clock, by rw [hk.block b (Array.getElem?_eq_some_iff.1 h1).1 h0]; exact h1, h2, by rw [hk.block (b + 1) (Array.getElem?_eq_some_iff.1 h3).1 h9]; exact h3, h4, h5⟩
theorem Tmr.later {w w' : World} {b : Nat} {l : List Nm} (h : Tmr w b l) (hb : Below w.heap.size w w') : Tmr w' b l :=
  h.keeps (F := fun _ => False) (Keeps.of_below hb _) (fun _ _ => id)
theorem Tmr.perm {w : World} {b : Nat} {l l' : List Nm} (h : Tmr w b l) (hp : l.Perm l') : Tmr w b l' := by
  obtain ⟨es, clock, h1, h2, h3, h4, h5⟩ := h
  exact ⟨es, clock, h1, h2, h3, h4, h5.trans hp⟩
theorem Tmr.lt {w : World} {b : Nat} {l : List Nm} (h : Tmr w b l) : b + 1 < w.heap.size := by
  obtain ⟨es, clock, h1, h2, h3, h4, h5⟩ := h
  exact (Array.getElem?_eq_some_iff.1 h3).1
theorem Tmr.cell {w : World} {b : Nat} {l : List Nm} (h : Tmr w b l) : w.cell? ⟨b + 1, 0, none⟩ = some (.map (some b)) := by
  obtain ⟨es, clock, h1, h2, h3, h4, h5⟩ := h
  simp [World.cell?, h3]
theorem Tmr.nodup {w : World} {b : Nat} {l : List Nm} (h : Tmr w b l) : (l.map Prod.fst).Nodup := by
  obtain ⟨es, clock, h1, h2, h3, h4, h5⟩ := h
  refine (h5.map Prod.fst).nodup_iff.1 ?_
  rw [List.map_map]
  have hn := ((stamped_iff es clock).1 h2).2.2
  unfold List.Nodup
  rw [List.pairwise_map]
  refine List.Pairwise.imp_of_mem ?_ hn
  intro x y hx hy hne e1
  exact hne (by rw [(h4 x hx).1, (h4 y hy).1]; exact congrArg Value.string e1)
/-- A map of no names, and its box. -/
theorem Tmr.new (w : World) : Tmr ((w.alloc (.map #[] 0)).alloc (.cells #[.map (some w.heap.size)] 44)) w.heap.size [] :=
  ⟨#[], 0, by rw [(heap_alloc _ _).2 _ (by simp)]; exact (heap_alloc w _).1, stamped_empty 0, by rw [show w.heap.size + 1 = (w.alloc (.map #[] 0)).heap.size from by simp]; exact (heap_alloc _ _).1, by simp, by simp⟩
/-- What is found at a name. -/
def LookN (l : List Nm) (n : ByteArray) (m : Int) (z : Bool) : Prop := (z = true ∧ (n, m) ∈ l) ∨ (z = false ∧ m = 0 ∧ ∀ x ∈ l, x.1 ≠ n)
theorem Tmr.look {w : World} {b : Nat} {l : List Nm} (h : Tmr w b l) (n : ByteArray) : ∃ m z, (∀ w' : World, w'.heap[b]? = w.heap[b]? → (Instr.lookup 42 (.map (some b)) (.string n) true).run Try.prog w' = .ok (.tuple #[.int .i64 m, .bool z]) w') ∧ LookN l n m z := by
  obtain ⟨es, clock, h1, h2, h3, h4, h5⟩ := h
  rcases run_findS n es.toList h4 with ⟨f1, f2⟩ | ⟨j, e, f1, f2, f3⟩
  · refine ⟨0, false, ?_, .inr ⟨rfl, rfl, fun x hx => ?_⟩⟩
    · intro w' hw
      simp [Instr.lookup, run_underlying Try.underlying42, MapKept.run_getObj_map (hw.trans h1), run_scheck, f1, Result.andThen]
    · obtain ⟨e, he, rfl⟩ := List.mem_map.1 (h5.mem_iff.2 hx)
      exact f2 e he
  · have he := List.mem_of_getElem? f2
    refine ⟨(entN e).2, true, ?_, .inl ⟨rfl, h5.mem_iff.1 (List.mem_map.2 ⟨e, he, by rw [← f3]⟩)⟩⟩
    intro w' hw
    simp [Instr.lookup, run_underlying Try.underlying42, MapKept.run_getObj_map (hw.trans h1), run_scheck, f1, Result.andThen, (h4 e he).2]
theorem keeps_setBlock {w : World} {b : Nat} {es : Array MapEntry} {clock : Nat} (hb : w.heap[b]? = some (.map es clock)) (o : Obj) : Keeps (fun x => x = b) w (setBlock w b o) :=
  ⟨rfl, rfl, rfl, by simp [setBlock], fun k _ hk => heap_setBlock_other hb o hk⟩
theorem names_apart {es : Array MapEntry} {clock : Nat} {n : ByteArray} (h2 : Stamped es clock) (h4 : ∀ e ∈ es.toList, IsNm e) : (es.toList.map entN).Pairwise (fun x y => ¬ (goneN n x = true ∧ goneN n y = true)) := by
  rw [List.pairwise_map]
  have hn := ((stamped_iff es clock).1 h2).2.2
  refine List.Pairwise.imp_of_mem ?_ hn
  intro x y hx hy hne ⟨g1, g2⟩
  rw [goneN_iff] at g1 g2
  exact hne (by rw [(h4 x hx).1, (h4 y hy).1, g1, g2])
/-- A name more, in the place of what was there. -/
theorem Tmr.put {w : World} {b : Nat} {l : List Nm} (h : Tmr w b l) (n : ByteArray) (m : Int) :
    ∃ w', (Instr.mapUpdate 42 (.map (some b)) (.string n) (.int .i64 m)).run Try.prog w = .ok () w' ∧ Tmr w' b ((n, m) :: delN n l) ∧ Keeps (fun x => x = b) w w' := by
  obtain ⟨es, clock, h1, h2, h3, h4, h5⟩ := h
  have hkk := fun o => keeps_setBlock h1 o
  have hother : ∀ o, (setBlock w b o).heap[b + 1]? = some (.cells #[.map (some b)] 44 (0, 0)) := fun o => by rw [heap_setBlock_other h1 o (by omega)]; exact h3
  rcases run_findS n es.toList h4 with ⟨f1, f2⟩ | ⟨j, e0, f1, f2, f3⟩
  · refine ⟨setBlock w b (.map (es.push ⟨.string n, .int .i64 m, clock⟩) (clock + 1)), ?_, ⟨_, _, heap_setBlock_same h1 _, stamped_push h2 (fun e he e1 => f2 e he (by rw [(h4 e he).1] at e1; exact Value.string.inj e1)), hother _, fun e he => ?_, ?_⟩, hkk _⟩
    · simp [Instr.mapUpdate, run_underlying Try.underlying42, MapKept.run_getObj_map h1, run_scheck, f1, MapKept.run_setObj_map _ h1, Result.andThen, setBlock]
    · simp only [Array.toList_push, List.mem_append, List.mem_singleton] at he
      rcases he with he | rfl
      · exact h4 e he
      · exact ⟨rfl, rfl⟩
    · rw [Array.toList_push, List.map_append]
      refine (List.perm_append_singleton _ _).trans (List.Perm.cons _ (h5.trans ?_))
      unfold delN
      rw [List.filter_eq_self.2 fun x hx => ?_]
      obtain ⟨e, he, rfl⟩ := List.mem_map.1 (h5.mem_iff.2 hx)
      rw [goneN_false (f2 e he)]
      rfl
  · have he0 := List.mem_of_getElem? f2
    have hj : es[j]? = some e0 := by simpa using f2
    have hjl : j < es.toList.length := (List.getElem?_eq_some_iff.1 f2).1
    have hk0 : e0.key = .string n := by rw [(h4 e0 he0).1, f3]
    have hlist : (es.modify j (fun e' => { e' with key := .string n, val := .int .i64 m })).toList = es.toList.set j { e0 with key := .string n, val := .int .i64 m } := by rw [Array.toList_modify, modify_eq_set _ _ _ _ f2]
    refine ⟨setBlock w b (.map (es.modify j (fun e' => { e' with key := .string n, val := .int .i64 m })) clock), ?_, ⟨_, _, heap_setBlock_same h1 _, stamped_modify h2 _ _ (fun _ _ => rfl) (fun e' _ he' => by rw [hj] at he'; cases he'; exact hk0.symm), hother _, fun e he => ?_, ?_⟩, hkk _⟩
    · simp [Instr.mapUpdate, run_underlying Try.underlying42, MapKept.run_getObj_map h1, run_scheck, f1, hj, hk0, run_sstays, MapKept.run_setObj_map _ h1, Result.andThen, setBlock]
    · rw [hlist] at he
      rcases List.mem_or_eq_of_mem_set he with he | rfl
      · exact h4 e he
      · exact ⟨rfl, rfl⟩
    · rw [hlist, List.map_set]
      refine (set_perm _ j (by simpa using hjl) _).trans (List.Perm.cons _ ?_)
      have e2 := filter_eq_eraseIdx (fun x => goneN n x) (es.toList.map entN) j (entN e0) (by simp [f2]) ((goneN_iff _ _).2 f3) (names_apart h2 h4)
      rw [← e2]
      exact h5.filter _
/-- A name less. -/
theorem Tmr.del {w : World} {b : Nat} {l : List Nm} (h : Tmr w b l) (n : ByteArray) (ty : TypeId) :
    ∃ w', (Builtin.delete_ #[42, 9] ty #[.map (some b), .string n]).run Try.prog w = .ok (.tuple #[]) w' ∧ Tmr w' b (delN n l) ∧ Keeps (fun x => x = b) w w' := by
  obtain ⟨es, clock, h1, h2, h3, h4, h5⟩ := h
  have hkk := fun o => keeps_setBlock h1 o
  have hother : ∀ o, (setBlock w b o).heap[b + 1]? = some (.cells #[.map (some b)] 44 (0, 0)) := fun o => by rw [heap_setBlock_other h1 o (by omega)]; exact h3
  rcases run_findS n es.toList h4 with ⟨f1, f2⟩ | ⟨j, e0, f1, f2, f3⟩
  · refine ⟨setBlock w b (.map es clock), ?_, ⟨es, clock, heap_setBlock_same h1 _, h2, hother _, h4, h5.trans ?_⟩, hkk _⟩
    · simp [Builtin.delete_, run_underlying Try.underlying42, MapKept.run_getObj_map h1, run_scheck, f1, MapKept.run_setObj_map _ h1, Result.andThen, setBlock]
    · unfold delN
      rw [List.filter_eq_self.2 fun x hx => ?_]
      obtain ⟨e, he, rfl⟩ := List.mem_map.1 (h5.mem_iff.2 hx)
      rw [goneN_false (f2 e he)]
      rfl
  · have he0 := List.mem_of_getElem? f2
    have hjl : j < es.toList.length := (List.getElem?_eq_some_iff.1 f2).1
    have hjs : j < es.size := by simpa using hjl
    have hsub : (es.eraseIdxIfInBounds j).toList = es.toList.eraseIdx j := by
      unfold Array.eraseIdxIfInBounds
      rw [dif_pos hjs]
      simp
    refine ⟨setBlock w b (.map (es.eraseIdxIfInBounds j) clock), ?_, ⟨es.eraseIdxIfInBounds j, clock, heap_setBlock_same h1 _, stamped_erase h2 j, hother _, fun e he => ?_, ?_⟩, hkk _⟩
    · simp [Builtin.delete_, run_underlying Try.underlying42, MapKept.run_getObj_map h1, run_scheck, f1, MapKept.run_setObj_map _ h1, Result.andThen, setBlock]
    · rw [hsub] at he
      exact h4 e ((List.eraseIdx_sublist _ _).subset he)
    · rw [hsub, map_eraseIdx]
      have e2 := filter_eq_eraseIdx (fun x => goneN n x) (es.toList.map entN) j (entN e0) (by simp [f2]) ((goneN_iff _ _).2 f3) (names_apart h2 h4)
      unfold delN
      rw [← e2]
      exact h5.filter _
end Go.Proofs.Ythbgalknhodgnaa
