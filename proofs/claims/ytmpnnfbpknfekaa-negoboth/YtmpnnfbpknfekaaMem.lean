/- Memory: what a stretch of the program turns ('Keeps'), pages of 64 bytes in a block ('Grid'), rows of bytes ('Rw'). -/
import Derived.Test.YtmpnnfbpknfekaaRows
import Derived.WalkKit
import Derived.WalkLawsBesides
import Derived.Below
import Derived.WalkSpells
import Derived.OpenShut
import Derived.OwnWalk
import Derived.Deep.MidRow
import Derived.Deep.AppendLies
import Derived.Laws.MakeOwn
import Derived.Laws.CopyRow
namespace Go.Proofs.Ytmpnnfbpknfekaa
open Go.RowKit
set_option maxRecDepth 100000

theorem hide {p : Prop} (h : p) : Hid p := h

/-- All that lies outside the blocks F is as it was. -/
structure Keeps (F : Nat → Prop) (w w' : World) : Prop where
  os : w'.os = w.os
  tape : w'.tape = w.tape
  output : w'.output = w.output
  size : w.heap.size ≤ w'.heap.size
  block : ∀ k, k < w.heap.size → ¬ F k → w'.heap[k]? = w.heap[k]?

theorem Keeps.refl (F : Nat → Prop) (w : World) : Keeps F w w := ⟨rfl, rfl, rfl, Nat.le_refl _, fun _ _ _ => rfl⟩
theorem Keeps.mono {F G : Nat → Prop} {w w' : World} (h : Keeps F w w') (hg : ∀ k, k < w.heap.size → F k → G k) : Keeps G w w' :=
  ⟨h.os, h.tape, h.output, h.size, fun k hk hn => h.block k hk fun hf => hn (hg k hk hf)⟩
theorem Keeps.trans {F G : Nat → Prop} {w w1 w2 : World} (h : Keeps F w w1) (k : Keeps G w1 w2) (hg : ∀ b, b < w.heap.size → G b → F b) : Keeps F w w2 :=
  ⟨k.os.trans h.os, k.tape.trans h.tape, k.output.trans h.output, Nat.le_trans h.size k.size, fun b hb hn => by
    rw [k.block b (Nat.lt_of_lt_of_le hb h.size) fun hgb => hn (hg b hb hgb), h.block b hb hn]⟩
theorem Keeps.alloc {F : Nat → Prop} {w w1 : World} (h : Keeps F w w1) (o : Obj) : Keeps F w (w1.alloc o) :=
  ⟨h.os, h.tape, h.output, by simp; exact Nat.le_succ_of_le h.size, fun k hk hn => by
    have hk1 : k < w1.heap.size := Nat.lt_of_lt_of_le hk h.size
    show (w1.heap.push o)[k]? = _
    rw [Array.getElem?_push, if_neg (by omega)]
    exact h.block k hk hn⟩
theorem Keeps.drew {F : Nat → Prop} {w w1 : World} (h : Keeps F w w1) : Keeps F w w1.drew := ⟨h.os, h.tape, h.output, h.size, h.block⟩
theorem heap_setCell (w : World) (b o : Nat) (v : Value) (k : Nat) (hne : k ≠ b) : (w.setCell ⟨b, o, none⟩ v).heap[k]? = w.heap[k]? := by
  simp only [World.setCell, Array.getElem?_modify]
  rw [if_neg (Ne.symm hne)]
theorem heap_setCells (b : Nat) : ∀ (vs : List Value) (o : Nat) (w : World) (k : Nat), k ≠ b → (w.setCells b o vs).heap[k]? = w.heap[k]?
  | [], _, _, _, _ => rfl
  | v :: r, o, w, k, hne => by rw [World.setCells, heap_setCells b r (o + 1) _ k hne, heap_setCell w b o v k hne]
theorem size_setCells (b : Nat) : ∀ (vs : List Value) (o : Nat) (w : World), (w.setCells b o vs).heap.size = w.heap.size
  | [], _, _ => rfl
  | v :: r, o, w => by rw [World.setCells, size_setCells b r (o + 1) _]; simp
theorem Keeps.setCell {F : Nat → Prop} {w w1 : World} (h : Keeps F w w1) (b o : Nat) (v : Value) (hb : F b ∨ w.heap.size ≤ b) : Keeps F w (w1.setCell ⟨b, o, none⟩ v) :=
  ⟨h.os, h.tape, h.output, by simpa using h.size, fun k hk hn => by
    rw [heap_setCell w1 b o v k (fun e => by subst e; rcases hb with hb | hb; exact hn hb; omega)]
    exact h.block k hk hn⟩
theorem Keeps.setCells {F : Nat → Prop} {w w1 : World} (h : Keeps F w w1) (b o : Nat) (vs : List Value) (hb : F b ∨ w.heap.size ≤ b) : Keeps F w (w1.setCells b o vs) := by
  induction vs generalizing o w1 with
  | nil => exact h
  | cons v r ih => rw [World.setCells]; exact ih (h.setCell b o v hb) (o + 1)
theorem Keeps.grown {F : Nat → Prop} {w w1 w2 : World} {row : Option Nat} (h : Keeps F w w1) (hg : w1.grownBy w2 row) (hr : ∀ b, row = some b → F b ∨ w.heap.size ≤ b) : Keeps F w w2 :=
  ⟨hg.os.trans h.os, hg.tape.trans h.tape, hg.output.trans h.output, Nat.le_trans h.size hg.size, fun k hk hn => by
    rw [hg.block k (Nat.lt_of_lt_of_le hk h.size) (fun e => by rcases hr k e.symm with hf | hf; exact hn hf; omega)]
    exact h.block k hk hn⟩
/-- Where all of F is new since block B, what lay below B stands. -/
theorem Keeps.below {F : Nat → Prop} {w w' : World} (h : Keeps F w w') (B : Nat) (hB : B ≤ w.heap.size) (hF : ∀ b, F b → B ≤ b) : Below B w w' :=
  ⟨h.os, h.tape, h.output, h.size, fun k hk => h.block k (by omega) fun hf => by have := hF k hf; omega⟩
theorem Keeps.of_below {w w' : World} (h : Below w.heap.size w w') (F : Nat → Prop) : Keeps F w w' := ⟨h.os, h.tape, h.output, h.size, fun k hk _ => h.block k hk⟩
theorem Keeps.cell {F : Nat → Prop} {w w' : World} (h : Keeps F w w') (a : Addr) (hb : a.block < w.heap.size) (hn : ¬ F a.block) : w'.cell? a = w.cell? a := World.cell?_of_block (h.block _ hb hn)

/-! ### Pages -/
/-- The bytes f 0 .. f (n - 1) as values. -/
def valsOf (f : Nat → Nat) (n : Nat) : List Value := (List.range n).map fun i => Value.int .u8 (f i : Int)
theorem valsOf_length (f : Nat → Nat) (n : Nat) : (valsOf f n).length = n := by simp [valsOf]
theorem valsOf_get (f : Nat → Nat) (n i : Nat) (h : i < n) : (valsOf f n)[i]? = some (Value.int .u8 (f i : Int)) := by simp [valsOf, h]
theorem valsOf_one (f : Nat → Nat) (n : Nat) : ∀ u ∈ valsOf f n, u.oneCell' = true := by
  intro u hu
  obtain ⟨i, _, rfl⟩ := List.mem_map.1 hu
  rfl
theorem valsOf_getElem (f : Nat → Nat) (n i : Nat) (h : i < (valsOf f n).length) : (valsOf f n)[i] = Value.int .u8 (f i : Int) := by simp [valsOf]
theorem valsOf_congr {f g : Nat → Nat} {n : Nat} (h : ∀ i, i < n → f i = g i) : valsOf f n = valsOf g n := by
  unfold valsOf
  apply List.map_congr_left
  intro i hi
  rw [h i (by simpa using hi)]

/-- Block b holds n pages, page i the bytes g i 0 .. g i 63; all may be written. -/
def Grid (w : World) (b n : Nat) (g : Nat → Nat → Nat) : Prop :=
  b < w.heap.size ∧ ∀ i, i < n → ∀ j, j < 64 → w.cell? ⟨b, i * 64 + j, none⟩ = some (.int .u8 (g i j : Int)) ∧ w.frozen? ⟨b, i * 64 + j, none⟩ = false

theorem Grid.range {w : World} {b n : Nat} {g : Nat → Nat → Nat} (h : Grid w b n g) (i : Nat) (hi : i < n) : w.rangeAt b (i * 64) (valsOf (g i) 64) := by
  intro j v hv
  have hj : j < 64 := by simpa [valsOf_length] using (List.getElem?_eq_some_iff.1 hv).1
  rw [valsOf_get _ _ _ hj] at hv
  rw [(h.2 i hi j hj).1, hv]
theorem Grid.thereAt {w : World} {b n : Nat} {g : Nat → Nat → Nat} (h : Grid w b n g) (i : Nat) (hi : i < n) : w.there b (i * 64) 64 := by
  intro j hj
  exact ⟨by rw [(h.2 i hi j hj).1]; rfl, (h.2 i hi j hj).2⟩
theorem Grid.of_block {w w' : World} {b n : Nat} {g : Nat → Nat → Nat} (h : Grid w b n g) (hs : w.heap.size ≤ w'.heap.size) (hb : w'.heap[b]? = w.heap[b]?) : Grid w' b n g :=
  ⟨Nat.lt_of_lt_of_le h.1 hs, fun i hi j hj => ⟨by rw [World.cell?_of_block (w := w) (by exact hb)]; exact (h.2 i hi j hj).1, by rw [World.frozen?_of_block (w := w) (by exact hb)]; exact (h.2 i hi j hj).2⟩⟩
theorem Grid.keeps {F : Nat → Prop} {w w' : World} {b n : Nat} {g : Nat → Nat → Nat} (h : Grid w b n g) (hk : Keeps F w w') (hn : ¬ F b) : Grid w' b n g :=
  h.of_block hk.size (hk.block b h.1 hn)
theorem Grid.congr {w : World} {b n : Nat} {g g' : Nat → Nat → Nat} (h : Grid w b n g) (e : ∀ i, i < n → ∀ j, j < 64 → g i j = g' i j) : Grid w b n g' :=
  ⟨h.1, fun i hi j hj => by rw [← e i hi j hj]; exact h.2 i hi j hj⟩
/-- Page k is p from place o on, for m bytes; the others as in g. -/
def putPage (g : Nat → Nat → Nat) (k m : Nat) (p : Nat → Nat) : Nat → Nat → Nat := fun i j => if i = k ∧ j < m then p j else g i j
/-- The first m bytes of page k are stored. -/
theorem Grid.store {w : World} {b n : Nat} {g : Nat → Nat → Nat} (h : Grid w b n g) (k : Nat) (hk : k < n) (m : Nat) (hm : m ≤ 64) (p : Nat → Nat) :
    Grid (w.setCells b (k * 64) (valsOf p m)) b n (putPage g k m p) := by
  refine ⟨by rw [size_setCells]; exact h.1, fun i hi j hj => ⟨?_, by rw [World.frozen?_setCells]; exact (h.2 i hi j hj).2⟩⟩
  unfold putPage
  by_cases e : i = k ∧ j < m
  · obtain ⟨rfl, hjm⟩ := e
    rw [if_pos ⟨rfl, hjm⟩, World.cell?_setCells_in b (valsOf p m) (i * 64) w (fun q hq => by
      rw [valsOf_length] at hq
      rw [(h.2 i hi q (by omega)).1]; rfl) j (by rw [valsOf_length]; exact hjm), valsOf_getElem]
  · rw [if_neg e, World.cell?_setCells_out b (valsOf p m) (k * 64) w _ (fun _ _ => by
      rw [valsOf_length]
      show i * 64 + j < k * 64 ∨ k * 64 + m ≤ i * 64 + j
      by_cases h1 : i = k
      · subst h1; right; omega
      · rcases Nat.lt_or_gt_of_ne h1 with h2 | h2
        · left; omega
        · right; omega)]
    exact (h.2 i hi j hj).1
theorem Grid.drew {w : World} {b n : Nat} {g : Nat → Nat → Nat} (h : Grid w b n g) : Grid w.drew b n g := h.of_block (Nat.le_refl _) rfl
theorem Grid.alloc {w : World} {b n : Nat} {g : Nat → Nat → Nat} (h : Grid w b n g) (o : Obj) : Grid (w.alloc o) b n g :=
  h.keeps (F := fun _ => False) ((Keeps.refl _ w).alloc o) (fun h => h)

/-! ### Rows of bytes that are read -/
/-- The slice's elements are the bytes f 0, f 1, .. -/
def Rw (w : World) (a : Option Addr) (len : Nat) (f : Nat → Nat) : Prop :=
  len ≤ maxLen ∧ (0 < len → ∃ b off, a = some ⟨b, off, none⟩ ∧ ∀ i, i < len → w.cell? ⟨b, off + i, none⟩ = some (.int .u8 (f i : Int)))
theorem Rw.keeps {F : Nat → Prop} {w w' : World} {a : Option Addr} {len : Nat} {f : Nat → Nat} (h : Rw w a len f) (hk : Keeps F w w') (hn : ∀ x, a = some x → 0 < len → ¬ F x.block) : Rw w' a len f := by
  refine ⟨h.1, fun hp => ?_⟩
  obtain ⟨b, off, rfl, hc⟩ := h.2 hp
  refine ⟨b, off, rfl, fun i hi => ?_⟩
  rw [hk.cell _ (World.block_lt_of_cell? w _ (hc i hi)) (hn ⟨b, off, none⟩ rfl hp)]
  exact hc i hi
theorem Rw.below {w w' : World} {a : Option Addr} {len : Nat} {f : Nat → Nat} (h : Rw w a len f) (hk : Below w.heap.size w w') : Rw w' a len f :=
  h.keeps (F := fun _ => False) (Keeps.of_below hk _) (fun _ _ _ h => h)
theorem Rw.lt {w : World} {a : Option Addr} {len : Nat} {f : Nat → Nat} (h : Rw w a len f) (x : Addr) (hx : a = some x) (hp : 0 < len) : x.block < w.heap.size := by
  obtain ⟨b, off, rfl, hc⟩ := h.2 hp
  simp at hx
  subst hx
  exact World.block_lt_of_cell? w _ (hc 0 hp)
theorem Rw.congr {w : World} {a : Option Addr} {len : Nat} {f g : Nat → Nat} (h : Rw w a len f) (e : ∀ i, i < len → f i = g i) : Rw w a len g := by
  refine ⟨h.1, fun hp => ?_⟩
  obtain ⟨b, off, ha, hc⟩ := h.2 hp
  exact ⟨b, off, ha, fun i hi => by rw [← e i hi]; exact hc i hi⟩
theorem Rw.nil (w : World) (a : Option Addr) (f : Nat → Nat) : Rw w a 0 f := ⟨Nat.zero_le _, fun h => absurd h (by omega)⟩
/-- WHAT THE WALK IS TOLD OF A SLICE OF INTEGERS THAT CAME IN: it is nil; or it leads to a row of 'cap' cells, the numbers 'zs' (the first 'len' are its elements, the rest its spare room), each fitting its kind. -/
def IsRow (k : IntKind) (w : World) (a : Option Addr) (len cap : Nat) (zs : List Int) : Prop :=
  (a = none ∧ len = 0 ∧ cap = 0 ∧ zs = []) ∨
  ∃ x, a = some x ∧ len ≤ cap ∧ cap ≤ maxLen ∧ zs.length = cap ∧ (∀ i, i < zs.length → w.cell? (x.add i) = some (.int k (zs.getD i 0))) ∧ ∀ n ∈ zs, (Lit.int k n).wf = true
/-- The reading as a row of bytes by number. -/
theorem rw_of {w : World} {a : Option Addr} {len cap : Nat} {zs : List Int} (h : IsRow .u8 w a len cap zs) :
    Rw w a len (fun i => (zs.getD i 0).toNat) ∧ ∀ i, i < len → (zs.getD i 0).toNat < 256 := by
  have hb : ∀ n : Int, (Lit.int .u8 n).wf = true → 0 ≤ n ∧ n < 256 := by
    intro n hn; have := bounds_u8 hn; omega
  rcases h with ⟨rfl, rfl, rfl, rfl⟩ | ⟨x, rfl, hl, hm, hz, hcell, hwz⟩
  · exact ⟨Rw.nil _ _ _, fun i hi => absurd hi (by omega)⟩
  · have hbi : ∀ i, i < zs.length → 0 ≤ zs.getD i 0 ∧ zs.getD i 0 < 256 := by
      intro i hi
      have e : zs.getD i 0 = zs[i] := by simp [List.getD, hi]
      rw [e]; exact hb _ (hwz _ (List.getElem_mem hi))
    refine ⟨⟨Nat.le_trans hl hm, fun hi => ?_⟩, fun i hi => ?_⟩
    · obtain ⟨b, off, spot⟩ := x
      have hc := hcell 0 (by omega)
      have hspot : spot = none := by simpa [Addr.add] using World.cell?_spot hc
      subst hspot
      refine ⟨b, off, rfl, fun i hi2 => ?_⟩
      have h1 := hcell i (by omega)
      have h2 := hbi i (by omega)
      rw [Int.toNat_of_nonneg h2.1]
      by_cases e0 : i = 0
      · subst e0; simpa [Addr.add] using h1
      · simpa [Addr.add, e0] using h1
    · have h2 := hbi i (by omega)
      omega
/-- A page in a block of its own. -/
theorem rw_page (w : World) (f : Nat → Nat) (t : TypeId) : Rw (w.alloc (.cells (valsOf f 64).toArray t)) (some ⟨w.heap.size, 0, none⟩) 64 f := by
  refine ⟨by unfold maxLen; omega, fun _ => ⟨w.heap.size, 0, rfl, fun i hi => ?_⟩⟩
  rw [World.cell?_alloc_mark]
  simp [valsOf, hi]

/-! ### Single operations whose run is known: for the walk, where its own rules would lay 64 cells open -/
section
variable {P : Program} {ops : Array Oper} {rest : List Oper} {a : Act} {w w' : World} {Q : Exit → Act → World → Prop} {dst : Option Tmp} {ty : TypeId} {pos : String} {after : Array Edge}
theorem wpl_load (t : TypeId) (x : Operand) (p v : Value) (hx : a.eval x = p) (hr : (Instr.loadAt t p).run P w = .ok v w) (h : wpList P ops Q rest (a.put dst v) w) :
    wpList P ops Q ({ dst := dst, op := .load t x, type := ty, pos := pos, after := after, guard := none } :: rest) a w :=
  wpList_plain rfl fun K hK => by
    unfold Oper.wp execOp
    simp only [hx, Sem.run_bind, hr, Result.andThen_ok, Sem.run_pure]
    exact hK _ _ h
theorem wpl_store (t : TypeId) (x y : Operand) (p v : Value) (hx : a.eval x = p) (hy : a.eval y = v) (hr : (Instr.storeAt t p v).run P w = .ok () w') (h : wpList P ops Q rest (a.put dst undef) w') :
    wpList P ops Q ({ dst := dst, op := .store t x y, type := ty, pos := pos, after := after, guard := none } :: rest) a w :=
  wpList_plain rfl fun K hK => by
    unfold Oper.wp execOp
    simp only [hx, hy, Sem.run_bind, hr, Result.andThen_ok, Sem.run_pure]
    exact hK _ _ h
theorem wpl_alloc (t : TypeId) (v : Value) (hr : (Instr.alloc t true (.tuple #[])).run P w = .ok v w') (h : wpList P ops Q rest (a.put dst v) w') :
    wpList P ops Q ({ dst := dst, op := .alloc t, type := ty, pos := pos, after := after, guard := none } :: rest) a w :=
  wpList_plain rfl fun K hK => by
    unfold Oper.wp execOp
    simp only [Sem.run_bind, hr, Result.andThen_ok, Sem.run_pure]
    exact hK _ _ h
theorem wpl_build (t : TypeId) (i : Nat) (x : Operand) (p v : Value) (hx : a.eval x = p) (hr : (Instr.build t #[(i, p)]).run P w = .ok v w) (h : wpList P ops Q rest (a.put dst v) w) :
    wpList P ops Q ({ dst := dst, op := .build t #[(i, x)], type := ty, pos := pos, after := after, guard := none } :: rest) a w :=
  wpList_plain rfl fun K hK => by
    unfold Oper.wp execOp
    have e : (#[(i, x)].map fun (i, x) => (i, a.eval x)) = #[(i, p)] := by simp [hx]
    simp only [e, Sem.run_bind, hr, Result.andThen_ok, Sem.run_pure]
    exact hK _ _ h
theorem wpl_copy (d s : Operand) (dT sT : TypeId) (p v : Value) (r : Value) (hd : a.eval d = p) (hs : a.eval s = v) (hr : (Builtin.copy_ #[dT, sT] ty #[p, v]).run P w = .ok r w') (h : wpList P ops Q rest (a.put dst r) w') :
    wpList P ops Q ({ dst := dst, op := .call { callee := .builtin .copy, args := #[d, s], argTypes := #[dT, sT] }, type := ty, pos := pos, after := after, guard := none } :: rest) a w :=
  wpList_plain rfl fun K hK => by
    unfold Oper.wp execOp
    simp only [resolve, invoke, builtin, Sem.run_bind, Sem.run_pure, Result.andThen_ok, List.map_toArray, List.map_cons, List.map_nil, hd, hs, hr]
    exact hK _ _ h
end
end Go.Proofs.Ytmpnnfbpknfekaa
