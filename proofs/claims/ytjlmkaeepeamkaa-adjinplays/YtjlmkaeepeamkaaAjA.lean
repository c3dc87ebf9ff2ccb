/- A table of routes: the map that it keeps; what is found, laid into it and taken out of it. -/
import Derived.Test.YtjlmkaeepeamkaaHRl
import Derived.Test.YtjlmkaeepeamkaaRtW
import Derived.Maps.RangeRun
import Derived.WideKeyRuns
namespace Go.Proofs.Ytjlmkaeepeamkaa
open Go.RowKit Go.ChangeMaps Go.MapKept
set_option maxRecDepth 100000

/-- A key: whose a route is, and of what. -/
def kV (A : Nat) (L peer : Int) : Value := .agg #[.int .i64 peer, .int .u32 (A : Int), .int .i64 L]
theorem kV_inj {A A' : Nat} {L L' p p' : Int} (h : kV A L p = kV A' L' p') : A = A' ∧ L = L' ∧ p = p' := by
  unfold kV at h
  simp only [Value.agg.injEq, Array.mk.injEq, List.cons.injEq, Value.int.injEq, true_and, and_true] at h
  obtain ⟨h1, h2, h3⟩ := h
  exact ⟨by omega, h3, h1⟩
theorem run_kcheck (em : Bool) (A : Nat) (L p : Int) (w : World) : (Instr.checkKey em 10000 65 (kV A L p)).run Try.prog w = .ok () w := by kernel_rfl
theorem run_keq (A A' : Nat) (L L' p p' : Int) (w : World) : (Op.equal 65 (kV A L p) (kV A' L' p')).run Try.prog w = .ok (decide (p = p') && (decide (A = A') && decide (L = L'))) w := by
  by_cases h : p = p'
  · by_cases g : A = A'
    · by_cases k : L = L'
      · subst h g k; simp [Op.equal, Op.maxDepth, kV, go_sem]
      · subst h g
        simp [Op.equal, Op.maxDepth, kV, go_sem, k]
    · subst h
      have g' : ¬ (A : Int) = (A' : Int) := by omega
      simp [Op.equal, Op.maxDepth, kV, go_sem, g, g']
  · simp [Op.equal, Op.maxDepth, kV, go_sem, h]
theorem kwide : (match Try.prog.underlying 65 with | some (.array _ _) | some (.struct _) => true | _ => false) = true := by kernel_rfl
/-- Is a key among the entries? -/
theorem run_kfind (A : Nat) (L p : Int) : ∀ (es : List MapEntry) (i : Nat), (∀ e ∈ es, ∃ A' L' p', e.key = kV A' L' p') →
    ((∀ w, (Instr.findAsking 65 (kV A L p) es i).run Try.prog w = .ok none w) ∧ ∀ e ∈ es, e.key ≠ kV A L p) ∨ ∃ j e, (∀ w, (Instr.findAsking 65 (kV A L p) es i).run Try.prog w = .ok (some (i + j, e.val)) w) ∧ es[j]? = some e ∧ e.key = kV A L p
  | [], i, _ => .inl ⟨fun w => by simp [Instr.findAsking], by simp⟩
  | e :: es, i, h => by
    obtain ⟨A', L', p', hk⟩ := h e (by simp)
    by_cases hs : p = p' ∧ A = A' ∧ L = L'
    · obtain ⟨rfl, rfl, rfl⟩ := hs
      exact .inr ⟨0, e, fun w => by simp [Instr.findAsking, hk, run_keq], rfl, hk⟩
    · have hf : (decide (p = p') && (decide (A = A') && decide (L = L'))) = false := by
        cases hx : (decide (p = p') && (decide (A = A') && decide (L = L'))) with
        | false => rfl
        | true => simp only [Bool.and_eq_true, decide_eq_true_eq] at hx; exact absurd ⟨hx.1, hx.2.1, hx.2.2⟩ hs
      have hne : e.key ≠ kV A L p := fun e1 => hs (by
        rw [hk] at e1
        obtain ⟨h1, h2, h3⟩ := kV_inj e1
        exact ⟨h3.symm, h1.symm, h2.symm⟩)
      rcases run_kfind A L p es (i + 1) (fun x hx => h x (List.mem_cons_of_mem _ hx)) with ⟨h1, h2⟩ | ⟨j, x, h1, h2, h3⟩
      · refine .inl ⟨fun w => by simp [Instr.findAsking, hk, run_keq, hf, h1], fun x hx => ?_⟩
        rcases List.mem_cons.1 hx with rfl | hx
        · exact hne
        · exact h2 x hx
      · exact .inr ⟨j + 1, x, fun w => by simp [Instr.findAsking, hk, run_keq, hf, h1, Nat.add_comm, Nat.add_left_comm], by simpa using h2, h3⟩
theorem run_find (A : Nat) (L p : Int) (es : List MapEntry) (h : ∀ e ∈ es, ∃ A' L' p', e.key = kV A' L' p') :
    ((∀ w, (Instr.findKey 65 (kV A L p) es).run Try.prog w = .ok none w) ∧ ∀ e ∈ es, e.key ≠ kV A L p) ∨ ∃ j e, (∀ w, (Instr.findKey 65 (kV A L p) es).run Try.prog w = .ok (some (j, e.val)) w) ∧ es[j]? = some e ∧ e.key = kV A L p := by
  rcases run_kfind A L p es 0 h with ⟨h1, h2⟩ | ⟨j, e, h1, h2⟩
  · exact .inl ⟨fun w => by rw [run_findKey_eq w kwide]; exact h1 w, h2⟩
  · exact .inr ⟨j, e, fun w => by rw [run_findKey_eq w kwide, h1, Nat.zero_add], h2⟩
theorem run_kstays (A : Nat) (L p : Int) (w : World) : (Instr.keyThatStays (kV A L p) (kV A L p)).run Try.prog w = .ok (kV A L p) w := by
  have : Instr.sameBits 10000 (kV A L p) (kV A L p) = true := by
    unfold kV
    show Instr.sameBits (9999 + 1) _ _ = true
    simp [Instr.sameBits]
  simp [Instr.keyThatStays, this]
/-- An entry is the route r, in memory of its own since B. -/
def Ent (w : World) (B : Nat) (e : MapEntry) (r : Rt) : Prop := e.key = kV r.A r.L r.peer ∧ ∃ pa pc ca cc ra rc, e.val = .agg (rtC pa pc ca cc ra rc r) ∧ OwnAt w B pa pc ca cc ra rc r.att ∧ AtRd w pa ca ra r.att ∧ sizeA r.att ≤ 100000
theorem Ent.keeps {F : Nat → Prop} {w w' : World} {B : Nat} {e : MapEntry} {r : Rt} (h : Ent w B e r) (hk : Keeps F w w') (hF : ∀ b, B ≤ b → ¬ F b) : Ent w' B e r := by
  obtain ⟨h1, pa, pc, ca, cc, ra, rc, h2, h3, h4, h5⟩ := h
  have := h3.keeps hk hF
  exact ⟨h1, pa, pc, ca, cc, ra, rc, h2, this, this.rd h5 h4.next h4.raws.bytes, h5⟩
theorem Ent.later {w w' : World} {B : Nat} {e : MapEntry} {r : Rt} (h : Ent w B e r) (hb : Below w.heap.size w w') : Ent w' B e r :=
  h.keeps (F := fun _ => False) (Keeps.of_below hb _) (fun _ _ => id)
/-- Block b is a map of just the routes l, b + 1 the table's box. -/
def Tab (w : World) (b : Nat) (l : List Rt) : Prop :=
  ∃ es clock ro, w.heap[b]? = some (.map es clock) ∧ Stamped es clock ∧ w.heap[b + 1]? = some (.cells #[.map (some b)] 57 (0, 0)) ∧ (∀ e ∈ es.toList, Ent w (b + 2) e (ro e)) ∧ (es.toList.map ro).Perm l
theorem Tab.keeps {F : Nat → Prop} {w w' : World} {b : Nat} {l : List Rt} (h : Tab w b l) (hk : Keeps F w w') (hF : ∀ x, b ≤ x → ¬ F x) : Tab w' b l := by
  obtain ⟨es, clock, ro, h1, h2, h3, h4, h5⟩ := h
  exact ⟨es, clock, ro, by rw [hk.block b (Array.getElem?_eq_some_iff.1 h1).1 (hF b (Nat.le_refl _))]; exact h1, h2, by rw [hk.block (b + 1) (Array.getElem?_eq_some_iff.1 h3).1 (hF _ (by omega))]; exact h3, fun e he => (h4 e he).keeps hk (fun x hx => hF x (by omega)), h5⟩
theorem Tab.later {w w' : World} {b : Nat} {l : List Rt} (h : Tab w b l) (hb : Below w.heap.size w w') : Tab w' b l :=
  h.keeps (F := fun _ => False) (Keeps.of_below hb _) (fun _ _ => id)
theorem Tab.perm {w : World} {b : Nat} {l l' : List Rt} (h : Tab w b l) (hp : l.Perm l') : Tab w b l' := by
  obtain ⟨es, clock, ro, h1, h2, h3, h4, h5⟩ := h
  exact ⟨es, clock, ro, h1, h2, h3, h4, h5.trans hp⟩
theorem Tab.lt {w : World} {b : Nat} {l : List Rt} (h : Tab w b l) : b + 1 < w.heap.size := by
  obtain ⟨es, clock, ro, h1, h2, h3, h4, h5⟩ := h
  exact (Array.getElem?_eq_some_iff.1 h3).1
theorem Tab.cell {w : World} {b : Nat} {l : List Rt} (h : Tab w b l) : w.cell? ⟨b + 1, 0, none⟩ = some (.map (some b)) := by
  obtain ⟨es, clock, ro, h1, h2, h3, h4, h5⟩ := h
  simp [World.cell?, h3]
/-- A map of no routes, and its box. -/
theorem Tab.new (w : World) : Tab ((w.alloc (.map #[] 0)).alloc (.cells #[.map (some w.heap.size)] 57)) w.heap.size [] :=
  ⟨#[], 0, fun _ => noR, by rw [(heap_alloc _ _).2 _ (by simp)]; exact (heap_alloc w _).1, stamped_empty 0, by rw [show w.heap.size + 1 = (w.alloc (.map #[] 0)).heap.size from by simp]; exact (heap_alloc _ _).1, by simp, by simp⟩
theorem Tab.len {w : World} {b : Nat} {l : List Rt} (h : Tab w b l) (ty : TypeId) : (Builtin.len_ #[55] ty #[.map (some b)]).run Try.prog w = .ok (.int .i64 (l.length : Int)) w := by
  obtain ⟨es, clock, ro, h1, h2, h3, h4, h5⟩ := h
  have e1 : l.length = es.size := by rw [← h5.length_eq]; simp
  rw [e1]
  simp [Builtin.len_, run_underlying Try.underlying55, MapKept.run_getObj_map h1, goInt, Result.andThen]
theorem atRd_no (w : World) : AtRd w none none none noR.att := ⟨⟨fun h => absurd h (Nat.lt_irrefl 0), Nat.zero_le _, fun s hs => absurd hs (List.not_mem_nil (a := s))⟩, fun h => absurd h (Nat.lt_irrefl 0), fun h => absurd h (Nat.lt_irrefl 0), by decide⟩
/-- What is found at a key. -/
def Look (w : World) (l : List Rt) (A : Nat) (L p : Int) (pa ca ra : Option Addr) (r : Rt) (z : Bool) : Prop :=
  AtRd w pa ca ra r.att ∧ sizeA r.att ≤ 100000 ∧ ((z = true ∧ r ∈ l ∧ gone A L p r = true) ∨ (z = false ∧ r = noR ∧ ∀ x ∈ l, gone A L p x = false))
theorem gone_iff (A : Nat) (L p : Int) (r : Rt) : gone A L p r = true ↔ kV r.A r.L r.peer = kV A L p := by
  unfold gone
  simp only [Bool.and_eq_true, decide_eq_true_eq]
  constructor
  · rintro ⟨⟨h1, h2⟩, h3⟩; rw [h1, h2, h3]
  · intro h; obtain ⟨h1, h2, h3⟩ := kV_inj h; exact ⟨⟨h1, h2⟩, h3⟩
theorem gone_false {A : Nat} {L p : Int} {r : Rt} (h : kV r.A r.L r.peer ≠ kV A L p) : gone A L p r = false := by
  cases hg : gone A L p r with
  | false => rfl
  | true => exact absurd ((gone_iff A L p r).1 hg) h
theorem Tab.look {w : World} {b : Nat} {l : List Rt} (h : Tab w b l) (A : Nat) (L p : Int) : ∃ pa pc ca cc ra rc r z, (∀ w' : World, w'.heap[b]? = w.heap[b]? → (Instr.lookup 55 (.map (some b)) (kV A L p) true).run Try.prog w' = .ok (.tuple #[.agg (rtC pa pc ca cc ra rc r), .bool z]) w') ∧ Look w l A L p pa ca ra r z := by
  obtain ⟨es, clock, ro, h1, h2, h3, h4, h5⟩ := h
  rcases run_find A L p es.toList (fun e he => ⟨_, _, _, (h4 e he).1⟩) with ⟨f1, f2⟩ | ⟨j, e, f1, f2, f3⟩
  · refine ⟨none, 0, none, 0, none, 0, noR, false, ?_, atRd_no w, by decide, .inr ⟨rfl, rfl, fun x hx => ?_⟩⟩
    · intro w' hw
      simp [Instr.lookup, run_underlying Try.underlying55, MapKept.run_getObj_map (hw.trans h1), run_kcheck, f1, Result.andThen]
      rfl
    · obtain ⟨e, he, rfl⟩ := List.mem_map.1 (h5.mem_iff.2 hx)
      exact gone_false (fun e1 => f2 e he ((h4 e he).1.trans e1))
  · have he := List.mem_of_getElem? f2
    obtain ⟨k1, pa, pc, ca, cc, ra, rc, k2, k3, k4, k5⟩ := h4 e he
    refine ⟨pa, pc, ca, cc, ra, rc, ro e, true, ?_, k4, k5, .inl ⟨rfl, h5.mem_iff.1 (List.mem_map.2 ⟨e, he, rfl⟩), (gone_iff _ _ _ _).2 (k1.symm.trans f3)⟩⟩
    intro w' hw
    simp [Instr.lookup, run_underlying Try.underlying55, MapKept.run_getObj_map (hw.trans h1), run_kcheck, f1, Result.andThen, k2]
theorem keeps_setBlock {w : World} {b : Nat} {es : Array MapEntry} {clock : Nat} (hb : w.heap[b]? = some (.map es clock)) (o : Obj) : Keeps (fun x => x = b) w (setBlock w b o) :=
  ⟨rfl, rfl, rfl, by simp [setBlock], fun k _ hk => heap_setBlock_other hb o hk⟩
theorem keys_apart {w : World} {es : Array MapEntry} {clock : Nat} {ro : MapEntry → Rt} {B A : Nat} {L p : Int} (h2 : Stamped es clock) (h4 : ∀ e ∈ es.toList, Ent w B e (ro e)) : (es.toList.map ro).Pairwise (fun x y => ¬ (gone A L p x = true ∧ gone A L p y = true)) := by
  rw [List.pairwise_map]
  have hn := ((stamped_iff es clock).1 h2).2.2
  refine List.Pairwise.imp_of_mem ?_ hn
  intro x y hx hy hne ⟨g1, g2⟩
  rw [gone_iff] at g1 g2
  exact hne (((h4 x hx).1.trans g1).trans ((h4 y hy).1.trans g2).symm)
/-- A route more, in the place of what was there. -/
theorem Tab.put {w : World} {b : Nat} {l : List Rt} (h : Tab w b l) {pa : Option Addr} {pc : Nat} {ca : Option Addr} {cc : Nat} {ra : Option Addr} {rc : Nat} (r : Rt) (ho : OwnAt w (b + 2) pa pc ca cc ra rc r.att) (hr : AtRd w pa ca ra r.att) (hs : sizeA r.att ≤ 100000) :
    ∃ w', (Instr.mapUpdate 55 (.map (some b)) (kV r.A r.L r.peer) (.agg (rtC pa pc ca cc ra rc r))).run Try.prog w = .ok () w' ∧ Tab w' b (r :: l.filter (fun x => !gone r.A r.L r.peer x)) ∧ Keeps (fun x => x = b) w w' := by
  obtain ⟨es, clock, ro, h1, h2, h3, h4, h5⟩ := h
  have hkk := fun o => keeps_setBlock h1 o
  have hother : ∀ o, (setBlock w b o).heap[b + 1]? = some (.cells #[.map (some b)] 57 (0, 0)) := fun o => by rw [heap_setBlock_other h1 o (by omega)]; exact h3
  rcases run_find r.A r.L r.peer es.toList (fun e he => ⟨_, _, _, (h4 e he).1⟩) with ⟨f1, f2⟩ | ⟨j, e0, f1, f2, f3⟩
  · refine ⟨setBlock w b (.map (es.push ⟨kV r.A r.L r.peer, .agg (rtC pa pc ca cc ra rc r), clock⟩) (clock + 1)), ?_, ⟨_, _, fun x => if x.born = clock then r else ro x, heap_setBlock_same h1 _, stamped_push h2 f2, hother _, fun e he => ?_, ?_⟩, hkk _⟩
    · simp [Instr.mapUpdate, run_underlying Try.underlying55, MapKept.run_getObj_map h1, run_kcheck, f1, MapKept.run_setObj_map _ h1, Result.andThen, setBlock]
    · simp only [Array.toList_push, List.mem_append, List.mem_singleton] at he
      rcases he with he | rfl
      · have hb : e.born ≠ clock := fun e1 => by have := h2.1 e he; omega
        simp only [hb, if_false]
        exact (h4 e he).keeps (hkk _) (fun x hx e1 => by omega)
      · simp only [if_true]
        have := ho.keeps (hkk (.map (es.push ⟨kV r.A r.L r.peer, .agg (rtC pa pc ca cc ra rc r), clock⟩) (clock + 1))) (fun x hx e1 => by omega)
        exact ⟨rfl, pa, pc, ca, cc, ra, rc, rfl, this, this.rd hs hr.next hr.raws.bytes, hs⟩
    · rw [Array.toList_push, List.map_append]
      have e1 : es.toList.map (fun x => if x.born = clock then r else ro x) = es.toList.map ro := List.map_congr_left fun x hx => if_neg (fun e1 => by have := h2.1 x hx; omega)
      rw [e1]
      simp only [List.map_cons, List.map_nil, if_true]
      refine (List.perm_append_singleton _ _).trans (List.Perm.cons r (h5.trans ?_))
      rw [List.filter_eq_self.2 fun x hx => ?_]
      obtain ⟨e, he, rfl⟩ := List.mem_map.1 (h5.mem_iff.2 hx)
      rw [gone_false (fun e1 => f2 e he ((h4 e he).1.trans e1))]
      rfl
  · have he0 := List.mem_of_getElem? f2
    have hj : es[j]? = some e0 := by simpa using f2
    have hjl : j < es.toList.length := (List.getElem?_eq_some_iff.1 f2).1
    have hkeyf : ∀ e', es[j]? = some e' → ({ e' with key := kV r.A r.L r.peer, val := .agg (rtC pa pc ca cc ra rc r) } : MapEntry).key = e'.key := fun e' he' => by rw [hj] at he'; cases he'; exact f3.symm
    have hlist : (es.modify j (fun e' => { e' with key := kV r.A r.L r.peer, val := .agg (rtC pa pc ca cc ra rc r) })).toList = es.toList.set j { e0 with key := kV r.A r.L r.peer, val := .agg (rtC pa pc ca cc ra rc r) } := by rw [Array.toList_modify, modify_eq_set _ _ _ _ f2]
    have hbn := ((stamped_iff es clock).1 h2).2.1
    have other : ∀ i x, es.toList[i]? = some x → i ≠ j → x.born ≠ e0.born := fun i x hi hne e1 => by
      obtain ⟨hil, hix⟩ := List.getElem?_eq_some_iff.1 hi
      obtain ⟨_, hjx⟩ := List.getElem?_eq_some_iff.1 f2
      have hpw := List.pairwise_iff_getElem.1 hbn
      rcases Nat.lt_or_gt_of_ne hne with h | h
      · exact hpw i j (by simpa using hil) (by simpa using hjl) h (by simp only [List.getElem_map]; rw [hix, hjx]; exact e1)
      · exact hpw j i (by simpa using hjl) (by simpa using hil) h (by simp only [List.getElem_map]; rw [hix, hjx]; exact e1.symm)
    have who : ∀ x ∈ es.toList.set j { e0 with key := kV r.A r.L r.peer, val := .agg (rtC pa pc ca cc ra rc r) }, x = { e0 with key := kV r.A r.L r.peer, val := .agg (rtC pa pc ca cc ra rc r) } ∨ (x ∈ es.toList ∧ x.born ≠ e0.born) := by
      intro x hx
      obtain ⟨i, hi, ex⟩ := List.getElem_of_mem hx
      rw [List.getElem_set] at ex
      split at ex
      · exact .inl ex.symm
      · rename_i hne
        have hi' : i < es.toList.length := by simpa using hi
        exact .inr ⟨ex ▸ List.getElem_mem hi', other i x (by rw [List.getElem?_eq_getElem hi', ex]) (fun e1 => hne e1.symm)⟩
    refine ⟨setBlock w b (.map (es.modify j (fun e' => { e' with key := kV r.A r.L r.peer, val := .agg (rtC pa pc ca cc ra rc r) })) clock), ?_, ⟨_, _, fun x => if x.born = e0.born then r else ro x, heap_setBlock_same h1 _, stamped_modify h2 _ _ (fun _ _ => rfl) (fun e' _ he' => hkeyf e' he'), hother _, fun e he => ?_, ?_⟩, hkk _⟩
    · simp [Instr.mapUpdate, run_underlying Try.underlying55, MapKept.run_getObj_map h1, run_kcheck, f1, hj, f3, run_kstays, MapKept.run_setObj_map _ h1, Result.andThen, setBlock]
    · rw [hlist] at he
      rcases who e he with rfl | ⟨he', hne⟩
      · simp only [if_true]
        have := ho.keeps (hkk (.map (es.modify j (fun e' => { e' with key := kV r.A r.L r.peer, val := .agg (rtC pa pc ca cc ra rc r) })) clock)) (fun x hx e1 => by omega)
        exact ⟨rfl, pa, pc, ca, cc, ra, rc, rfl, this, this.rd hs hr.next hr.raws.bytes, hs⟩
      · simp only [hne, if_false]
        exact (h4 e he').keeps (hkk _) (fun x hx e1 => by omega)
    · rw [hlist, List.map_set]
      simp only [if_true]
      have hset : (es.toList.map (fun x => if x.born = e0.born then r else ro x)).set j r = (es.toList.map ro).set j r := by
        apply List.ext_getElem?
        intro i
        simp only [List.getElem?_set, List.length_map]
        by_cases hij : j = i
        · simp [hij]
        · simp only [hij, if_false, List.getElem?_map]
          cases hi : es.toList[i]? with
          | none => rfl
          | some x => simp [other i x hi (fun e1 => hij e1.symm)]
      rw [hset]
      refine (set_perm _ j (by simpa using hjl) r).trans (List.Perm.cons r ?_)
      have e2 := filter_eq_eraseIdx (fun x => gone r.A r.L r.peer x) (es.toList.map ro) j (ro e0) (by simp [f2]) ((gone_iff _ _ _ _).2 ((h4 e0 he0).1.symm.trans f3)) (keys_apart h2 h4)
      rw [← e2]
      exact h5.filter _
/-- A route less. -/
theorem Tab.del {w : World} {b : Nat} {l : List Rt} (h : Tab w b l) (A : Nat) (L p : Int) (ty : TypeId) :
    ∃ w', (Builtin.delete_ #[55, 65] ty #[.map (some b), kV A L p]).run Try.prog w = .ok (.tuple #[]) w' ∧ Tab w' b (dropL A L p l) ∧ Keeps (fun x => x = b) w w' := by
  obtain ⟨es, clock, ro, h1, h2, h3, h4, h5⟩ := h
  have hkk := fun o => keeps_setBlock h1 o
  have hother : ∀ o, (setBlock w b o).heap[b + 1]? = some (.cells #[.map (some b)] 57 (0, 0)) := fun o => by rw [heap_setBlock_other h1 o (by omega)]; exact h3
  rcases run_find A L p es.toList (fun e he => ⟨_, _, _, (h4 e he).1⟩) with ⟨f1, f2⟩ | ⟨j, e0, f1, f2, f3⟩
  · refine ⟨setBlock w b (.map es clock), ?_, ⟨es, clock, ro, heap_setBlock_same h1 _, h2, hother _, fun e he => (h4 e he).keeps (hkk _) (fun x hx e1 => by omega), h5.trans ?_⟩, hkk _⟩
    · simp [Builtin.delete_, run_underlying Try.underlying55, MapKept.run_getObj_map h1, run_kcheck, f1, MapKept.run_setObj_map _ h1, Result.andThen, setBlock]
    · unfold dropL
      rw [List.filter_eq_self.2 fun x hx => ?_]
      obtain ⟨e, he, rfl⟩ := List.mem_map.1 (h5.mem_iff.2 hx)
      rw [gone_false (fun e1 => f2 e he ((h4 e he).1.trans e1))]
      rfl
  · have he0 := List.mem_of_getElem? f2
    have hjl : j < es.toList.length := (List.getElem?_eq_some_iff.1 f2).1
    have hjs : j < es.size := by simpa using hjl
    have hsub : (es.eraseIdxIfInBounds j).toList = es.toList.eraseIdx j := by
      unfold Array.eraseIdxIfInBounds
      rw [dif_pos hjs]
      simp
    refine ⟨setBlock w b (.map (es.eraseIdxIfInBounds j) clock), ?_, ⟨es.eraseIdxIfInBounds j, clock, ro, heap_setBlock_same h1 _, stamped_erase h2 j, hother _, fun e he => ?_, ?_⟩, hkk _⟩
    · simp [Builtin.delete_, run_underlying Try.underlying55, MapKept.run_getObj_map h1, run_kcheck, f1, MapKept.run_setObj_map _ h1, Result.andThen, setBlock]
    · rw [hsub] at he
      exact (h4 e ((List.eraseIdx_sublist _ _).subset he)).keeps (hkk _) (fun x hx e1 => by omega)
    · rw [hsub, map_eraseIdx]
      have e2 := filter_eq_eraseIdx (fun x => gone A L p x) (es.toList.map ro) j (ro e0) (by simp [f2]) ((gone_iff _ _ _ _).2 ((h4 e0 he0).1.symm.trans f3)) (keys_apart h2 h4)
      rw [← e2]
      exact h5.filter _
end Go.Proofs.Ytjlmkaeepeamkaa
