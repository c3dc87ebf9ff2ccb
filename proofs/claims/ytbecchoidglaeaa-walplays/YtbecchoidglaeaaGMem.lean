/- Memory: what a stretch of the program turns ('Keeps'), pages of 64 bytes in a block ('Grid'), rows of bytes ('Rw'). -/
import Derived.Test.YtbecchoidglaeaaRows
import Derived.WalkKit
import Derived.WalkLawsBesides
import Derived.Below
import Derived.WalkSpells
import Derived.OpenShut
import Derived.OwnWalk
import Derived.Deep.MidRow
import Derived.Deep.AppendLies
import Derived.Laws.MakeOwn
import Derived.Laws.CopyRow
import Derived.Laws.BitsAllLaws
namespace Go.Proofs.Ytbecchoidglaeaa
open Go.RowKit
set_option maxRecDepth 100000

theorem hide {p : Prop} (h : p) : Hid p := h

/-- All that lies outside the blocks F is as it was. -/
structure Keeps (F : Nat → Prop) (w w' : World) : Prop where
  os : w'.os = w.os
  tape : w'.tape = w.tape
  output : w'.output = w.output
  size : w.heap.size ≤ w'.heap.size
  block : ∀ k, k < w.heap.size → ¬ F k → w'.heap[k]? = w.heap[k]?

theorem Keeps.refl (F : Nat → Prop) (w : World) : Keeps F w w := ⟨rfl, rfl, rfl, Nat.le_refl _, fun _ _ _ => rfl⟩
theorem Keeps.mono {F G : Nat → Prop} {w w' : World} (h : Keeps F w w') (hg : ∀ k, k < w.heap.size → F k → G k) : Keeps G w w' :=
  ⟨h.os, h.tape, h.output, h.size, fun k hk hn => h.block k hk fun hf => hn (hg k hk hf)⟩
theorem Keeps.trans {F G : Nat → Prop} {w w1 w2 : World} (h : Keeps F w w1) (k : Keeps G w1 w2) (hg : ∀ b, b < w.heap.size → G b → F b) : Keeps F w w2 :=
  ⟨k.os.trans h.os, k.tape.trans h.tape, k.output.trans h.output, Nat.le_trans h.size k.size, fun b hb hn => by
    rw [k.block b (Nat.lt_of_lt_of_le hb h.size) fun hgb => hn (hg b hb hgb), h.block b hb hn]⟩
theorem Keeps.alloc {F : Nat → Prop} {w w1 : World} (h : Keeps F w w1) (o : Obj) : Keeps F w (w1.alloc o) :=
  ⟨h.os, h.tape, h.output, by simp; exact Nat.le_succ_of_le h.size, fun k hk hn => by
    have hk1 : k < w1.heap.size := Nat.lt_of_lt_of_le hk h.size
    show (w1.heap.push o)[k]? = _
    rw [Array.getElem?_push, if_neg (by omega)]
    exact h.block k hk hn⟩
theorem Keeps.drew {F : Nat → Prop} {w w1 : World} (h : Keeps F w w1) : Keeps F w w1.drew := ⟨h.os, h.tape, h.output, h.size, h.block⟩
theorem heap_setCell (w : World) (b o : Nat) (v : Value) (k : Nat) (hne : k ≠ b) : (w.setCell ⟨b, o, none⟩ v).heap[k]? = w.heap[k]? := by
  simp only [World.setCell, Array.getElem?_modify]
  rw [if_neg (Ne.symm hne)]
theorem heap_setCells (b : Nat) : ∀ (vs : List Value) (o : Nat) (w : World) (k : Nat), k ≠ b → (w.setCells b o vs).heap[k]? = w.heap[k]?
  | [], _, _, _, _ => rfl
  | v :: r, o, w, k, hne => by rw [World.setCells, heap_setCells b r (o + 1) _ k hne, heap_setCell w b o v k hne]
theorem size_setCells (b : Nat) : ∀ (vs : List Value) (o : Nat) (w : World), (w.setCells b o vs).heap.size = w.heap.size
  | [], _, _ => rfl
  | v :: r, o, w => by rw [World.setCells, size_setCells b r (o + 1) _]; simp
theorem Keeps.setCell {F : Nat → Prop} {w w1 : World} (h : Keeps F w w1) (b o : Nat) (v : Value) (hb : F b ∨ w.heap.size ≤ b) : Keeps F w (w1.setCell ⟨b, o, none⟩ v) :=
  ⟨h.os, h.tape, h.output, by simpa using h.size, fun k hk hn => by
    rw [heap_setCell w1 b o v k (fun e => by subst e; rcases hb with hb | hb; exact hn hb; omega)]
    exact h.block k hk hn⟩
theorem Keeps.setCells {F : Nat → Prop} {w w1 : World} (h : Keeps F w w1) (b o : Nat) (vs : List Value) (hb : F b ∨ w.heap.size ≤ b) : Keeps F w (w1.setCells b o vs) := by
  induction vs generalizing o w1 with
  | nil => exact h
  | cons v r ih => rw [World.setCells]; exact ih (h.setCell b o v hb) (o + 1)
theorem Keeps.grown {F : Nat → Prop} {w w1 w2 : World} {row : Option Nat} (h : Keeps F w w1) (hg : w1.grownBy w2 row) (hr : ∀ b, row = some b → F b ∨ w.heap.size ≤ b) : Keeps F w w2 :=
  ⟨hg.os.trans h.os, hg.tape.trans h.tape, hg.output.trans h.output, Nat.le_trans h.size hg.size, fun k hk hn => by
    rw [hg.block k (Nat.lt_of_lt_of_le hk h.size) (fun e => by rcases hr k e.symm with hf | hf; exact hn hf; omega)]
    exact h.block k hk hn⟩
/-- Where all of F is new since block B, what lay below B stands. -/
theorem Keeps.below {F : Nat → Prop} {w w' : World} (h : Keeps F w w') (B : Nat) (hB : B ≤ w.heap.size) (hF : ∀ b, F b → B ≤ b) : Below B w w' :=
  ⟨h.os, h.tape, h.output, h.size, fun k hk => h.block k (by omega) fun hf => by have := hF k hf; omega⟩
theorem Keeps.of_below {w w' : World} (h : Below w.heap.size w w') (F : Nat → Prop) : Keeps F w w' := ⟨h.os, h.tape, h.output, h.size, fun k hk _ => h.block k hk⟩
theorem Keeps.cell {F : Nat → Prop} {w w' : World} (h : Keeps F w w') (a : Addr) (hb : a.block < w.heap.size) (hn : ¬ F a.block) : w'.cell? a = w.cell? a := World.cell?_of_block (h.block _ hb hn)

/-! ### Pages -/
/-- The bytes f 0 .. f (n - 1) as values. -/
def valsOf (f : Nat → Nat) (n : Nat) : List Value := (List.range n).map fun i => Value.int .u8 (f i : Int)
theorem valsOf_length (f : Nat → Nat) (n : Nat) : (valsOf f n).length = n := by simp [valsOf]
theorem valsOf_get (f : Nat → Nat) (n i : Nat) (h : i < n) : (valsOf f n)[i]? = some (Value.int .u8 (f i : Int)) := by simp [valsOf, h]
theorem valsOf_one (f : Nat → Nat) (n : Nat) : ∀ u ∈ valsOf f n, u.oneCell' = true := by
  intro u hu
  obtain ⟨i, _, rfl⟩ := List.mem_map.1 hu
  rfl
theorem valsOf_getElem (f : Nat → Nat) (n i : Nat) (h : i < (valsOf f n).length) : (valsOf f n)[i] = Value.int .u8 (f i : Int) := by simp [valsOf]
theorem valsOf_congr {f g : Nat → Nat} {n : Nat} (h : ∀ i, i < n → f i = g i) : valsOf f n = valsOf g n := by
  unfold valsOf
  apply List.map_congr_left
  intro i hi
  rw [h i (by simpa using hi)]

/-- Block b holds n pages, page i the bytes g i 0 .. g i 63; all may be written. -/
def Grid (w : World) (b n : Nat) (g : Nat → Nat → Nat) : Prop :=
  b < w.heap.size ∧ ∀ i, i < n → ∀ j, j < 64 → w.cell? ⟨b, i * 64 + j, none⟩ = some (.int .u8 (g i j : Int)) ∧ w.frozen? ⟨b, i * 64 + j, none⟩ = false

theorem Grid.range {w : World} {b n : Nat} {g : Nat → Nat → Nat} (h : Grid w b n g) (i : Nat) (hi : i < n) : w.rangeAt b (i * 64) (valsOf (g i) 64) := by
  intro j v hv
  have hj : j < 64 := by simpa [valsOf_length] using (List.getElem?_eq_some_iff.1 hv).1
  rw [valsOf_get _ _ _ hj] at hv
  rw [(h.2 i hi j hj).1, hv]
theorem Grid.thereAt {w : World} {b n : Nat} {g : Nat → Nat → Nat} (h : Grid w b n g) (i : Nat) (hi : i < n) : w.there b (i * 64) 64 := by
  intro j hj
  exact ⟨by rw [(h.2 i hi j hj).1]; rfl, (h.2 i hi j hj).2⟩
theorem Grid.of_block {w w' : World} {b n : Nat} {g : Nat → Nat → Nat} (h : Grid w b n g) (hs : w.heap.size ≤ w'.heap.size) (hb : w'.heap[b]? = w.heap[b]?) : Grid w' b n g :=
  ⟨Nat.lt_of_lt_of_le h.1 hs, fun i hi j hj => ⟨by rw [World.cell?_of_block (w := w) (by exact hb)]; exact (h.2 i hi j hj).1, by rw [World.frozen?_of_block (w := w) (by exact hb)]; exact (h.2 i hi j hj).2⟩⟩
theorem Grid.keeps {F : Nat → Prop} {w w' : World} {b n : Nat} {g : Nat → Nat → Nat} (h : Grid w b n g) (hk : Keeps F w w') (hn : ¬ F b) : Grid w' b n g :=
  h.of_block hk.size (hk.block b h.1 hn)
theorem Grid.congr {w : World} {b n : Nat} {g g' : Nat → Nat → Nat} (h : Grid w b n g) (e : ∀ i, i < n → ∀ j, j < 64 → g i j = g' i j) : Grid w b n g' :=
  ⟨h.1, fun i hi j hj => by rw [← e i hi j hj]; exact h.2 i hi j hj⟩
/-- Page k is p from place o on, for m bytes; the others as in g. -/
def putPage (g : Nat → Nat → Nat) (k m : Nat) (p : Nat → Nat) : Nat → Nat → Nat := fun i j => if i = k ∧ j < m then p j else g i j
/-- The first m bytes of page k are stored. -/
theorem Grid.store {w : World} {b n : Nat} {g : Nat → Nat → Nat} (h : Grid w b n g) (k : Nat) (hk : k < n) (m : Nat) (hm : m ≤ 64) (p : Nat → Nat) :
    Grid (w.setCells b (k * 64) (valsOf p m)) b n (putPage g k m p) := by
  refine ⟨by rw [size_setCells]; exact h.1, fun i hi j hj => ⟨?_, by rw [World.frozen?_setCells]; exact (h.2 i hi j hj).2⟩⟩
  unfold putPage
  by_cases e : i = k ∧ j < m
  · obtain ⟨rfl, hjm⟩ := e
    rw [if_pos ⟨rfl, hjm⟩, World.cell?_setCells_in b (valsOf p m) (i * 64) w (fun q hq => by
      rw [valsOf_length] at hq
      rw [(h.2 i hi q (by omega)).1]; rfl) j (by rw [valsOf_length]; exact hjm), valsOf_getElem]
  · rw [if_neg e, World.cell?_setCells_out b (valsOf p m) (k * 64) w _ (fun _ _ => by
      rw [valsOf_length]
      show i * 64 + j < k * 64 ∨ k * 64 + m ≤ i * 64 + j
      by_cases h1 : i = k
      · subst h1; right; omega
      · rcases Nat.lt_or_gt_of_ne h1 with h2 | h2
        · left; omega
        · right; omega)]
    exact (h.2 i hi j hj).1
theorem Grid.drew {w : World} {b n : Nat} {g : Nat → Nat → Nat} (h : Grid w b n g) : Grid w.drew b n g := h.of_block (Nat.le_refl _) rfl
theorem Grid.alloc {w : World} {b n : Nat} {g : Nat → Nat → Nat} (h : Grid w b n g) (o : Obj) : Grid (w.alloc o) b n g :=
  h.keeps (F := fun _ => False) ((Keeps.refl _ w).alloc o) (fun h => h)

/-! ### Rows of bytes that are read -/
/-- The slice's elements are the bytes f 0, f 1, .. -/
def Rw (w : World) (a : Option Addr) (len : Nat) (f : Nat → Nat) : Prop :=
  len ≤ maxLen ∧ (0 < len → ∃ b off, a = some ⟨b, off, none⟩ ∧ ∀ i, i < len → w.cell? ⟨b, off + i, none⟩ = some (.int .u8 (f i : Int)))
theorem Rw.keeps {F : Nat → Prop} {w w' : World} {a : Option Addr} {len : Nat} {f : Nat → Nat} (h : Rw w a len f) (hk : Keeps F w w') (hn : ∀ x, a = some x → 0 < len → ¬ F x.block) : Rw w' a len f := by
  refine ⟨h.1, fun hp => ?_⟩
  obtain ⟨b, off, rfl, hc⟩ := h.2 hp
  refine ⟨b, off, rfl, fun i hi => ?_⟩
  rw [hk.cell _ (World.block_lt_of_cell? w _ (hc i hi)) (hn ⟨b, off, none⟩ rfl hp)]
  exact hc i hi
theorem Rw.below {w w' : World} {a : Option Addr} {len : Nat} {f : Nat → Nat} (h : Rw w a len f) (hk : Below w.heap.size w w') : Rw w' a len f :=
  h.keeps (F := fun _ => False) (Keeps.of_below hk _) (fun _ _ _ h => h)
theorem Rw.lt {w : World} {a : Option Addr} {len : Nat} {f : Nat → Nat} (h : Rw w a len f) (x : Addr) (hx : a = some x) (hp : 0 < len) : x.block < w.heap.size := by
  obtain ⟨b, off, rfl, hc⟩ := h.2 hp
  simp at hx
  subst hx
  exact World.block_lt_of_cell? w _ (hc 0 hp)
theorem Rw.congr {w : World} {a : Option Addr} {len : Nat} {f g : Nat → Nat} (h : Rw w a len f) (e : ∀ i, i < len → f i = g i) : Rw w a len g := by
  refine ⟨h.1, fun hp => ?_⟩
  obtain ⟨b, off, ha, hc⟩ := h.2 hp
  exact ⟨b, off, ha, fun i hi => by rw [← e i hi]; exact hc i hi⟩
theorem Rw.nil (w : World) (a : Option Addr) (f : Nat → Nat) : Rw w a 0 f := ⟨Nat.zero_le _, fun h => absurd h (by omega)⟩
/-- WHAT THE WALK IS TOLD OF A SLICE OF INTEGERS THAT CAME IN: it is nil; or it leads to a row of 'cap' cells, the numbers 'zs' (the first 'len' are its elements, the rest its spare room), each fitting its kind. -/
def IsRow (k : IntKind) (w : World) (a : Option Addr) (len cap : Nat) (zs : List Int) : Prop :=
  (a = none ∧ len = 0 ∧ cap = 0 ∧ zs = []) ∨
  ∃ x, a = some x ∧ len ≤ cap ∧ cap ≤ maxLen ∧ zs.length = cap ∧ (∀ i, i < zs.length → w.cell? (x.add i) = some (.int k (zs.getD i 0))) ∧ ∀ n ∈ zs, (Lit.int k n).wf = true
/-- The reading as a row of bytes by number. -/
theorem rw_of {w : World} {a : Option Addr} {len cap : Nat} {zs : List Int} (h : IsRow .u8 w a len cap zs) :
    Rw w a len (fun i => (zs.getD i 0).toNat) ∧ ∀ i, i < len → (zs.getD i 0).toNat < 256 := by
  have hb : ∀ n : Int, (Lit.int .u8 n).wf = true → 0 ≤ n ∧ n < 256 := by
    intro n hn; have := bounds_u8 hn; omega
  rcases h with ⟨rfl, rfl, rfl, rfl⟩ | ⟨x, rfl, hl, hm, hz, hcell, hwz⟩
  · exact ⟨Rw.nil _ _ _, fun i hi => absurd hi (by omega)⟩
  · have hbi : ∀ i, i < zs.length → 0 ≤ zs.getD i 0 ∧ zs.getD i 0 < 256 := by
      intro i hi
      have e : zs.getD i 0 = zs[i] := by simp [List.getD, hi]
      rw [e]; exact hb _ (hwz _ (List.getElem_mem hi))
    refine ⟨⟨Nat.le_trans hl hm, fun hi => ?_⟩, fun i hi => ?_⟩
    · obtain ⟨b, off, spot⟩ := x
      have hc := hcell 0 (by omega)
      have hspot : spot = none := by simpa [Addr.add] using World.cell?_spot hc
      subst hspot
      refine ⟨b, off, rfl, fun i hi2 => ?_⟩
      have h1 := hcell i (by omega)
      have h2 := hbi i (by omega)
      rw [Int.toNat_of_nonneg h2.1]
      by_cases e0 : i = 0
      · subst e0; simpa [Addr.add] using h1
      · simpa [Addr.add, e0] using h1
    · have h2 := hbi i (by omega)
      omega
/-- A page in a block of its own. -/
theorem rw_page (w : World) (f : Nat → Nat) (t : TypeId) : Rw (w.alloc (.cells (valsOf f 64).toArray t)) (some ⟨w.heap.size, 0, none⟩) 64 f := by
  refine ⟨by unfold maxLen; omega, fun _ => ⟨w.heap.size, 0, rfl, fun i hi => ?_⟩⟩
  rw [World.cell?_alloc_mark]
  simp [valsOf, hi]

/-! ### Single operations whose run is known: for the walk, where its own rules would lay 64 cells open -/
section
variable {P : Program} {ops : Array Oper} {rest : List Oper} {a : Act} {w w' : World} {Q : Exit → Act → World → Prop} {dst : Option Tmp} {ty : TypeId} {pos : String} {after : Array Edge}
theorem wpl_load (t : TypeId) (x : Operand) (p v : Value) (hx : a.eval x = p) (hr : (Instr.loadAt t p).run P w = .ok v w) (h : wpList P ops Q rest (a.put dst v) w) :
    wpList P ops Q ({ dst := dst, op := .load t x, type := ty, pos := pos, after := after, guard := none } :: rest) a w :=
  wpList_plain rfl fun K hK => by
    unfold Oper.wp execOp
    simp only [hx, Sem.run_bind, hr, Result.andThen_ok, Sem.run_pure]
    exact hK _ _ h
theorem wpl_store (t : TypeId) (x y : Operand) (p v : Value) (hx : a.eval x = p) (hy : a.eval y = v) (hr : (Instr.storeAt t p v).run P w = .ok () w') (h : wpList P ops Q rest (a.put dst undef) w') :
    wpList P ops Q ({ dst := dst, op := .store t x y, type := ty, pos := pos, after := after, guard := none } :: rest) a w :=
  wpList_plain rfl fun K hK => by
    unfold Oper.wp execOp
    simp only [hx, hy, Sem.run_bind, hr, Result.andThen_ok, Sem.run_pure]
    exact hK _ _ h
theorem wpl_alloc (t : TypeId) (v : Value) (hr : (Instr.alloc t true (.tuple #[])).run P w = .ok v w') (h : wpList P ops Q rest (a.put dst v) w') :
    wpList P ops Q ({ dst := dst, op := .alloc t, type := ty, pos := pos, after := after, guard := none } :: rest) a w :=
  wpList_plain rfl fun K hK => by
    unfold Oper.wp execOp
    simp only [Sem.run_bind, hr, Result.andThen_ok, Sem.run_pure]
    exact hK _ _ h
theorem wpl_build (t : TypeId) (i : Nat) (x : Operand) (p v : Value) (hx : a.eval x = p) (hr : (Instr.build t #[(i, p)]).run P w = .ok v w) (h : wpList P ops Q rest (a.put dst v) w) :
    wpList P ops Q ({ dst := dst, op := .build t #[(i, x)], type := ty, pos := pos, after := after, guard := none } :: rest) a w :=
  wpList_plain rfl fun K hK => by
    unfold Oper.wp execOp
    have e : (#[(i, x)].map fun (i, x) => (i, a.eval x)) = #[(i, p)] := by simp [hx]
    simp only [e, Sem.run_bind, hr, Result.andThen_ok, Sem.run_pure]
    exact hK _ _ h
theorem wpl_copy (d s : Operand) (dT sT : TypeId) (p v : Value) (r : Value) (hd : a.eval d = p) (hs : a.eval s = v) (hr : (Builtin.copy_ #[dT, sT] ty #[p, v]).run P w = .ok r w') (h : wpList P ops Q rest (a.put dst r) w') :
    wpList P ops Q ({ dst := dst, op := .call { callee := .builtin .copy, args := #[d, s], argTypes := #[dT, sT] }, type := ty, pos := pos, after := after, guard := none } :: rest) a w :=
  wpList_plain rfl fun K hK => by
    unfold Oper.wp execOp
    simp only [resolve, invoke, builtin, Sem.run_bind, Sem.run_pure, Result.andThen_ok, List.map_toArray, List.map_cons, List.map_nil, hd, hs, hr]
    exact hK _ _ h
end
end Go.Proofs.Ytbecchoidglaeaa
/- A disk of the program in memory ('Disk'), and its small functions: within, Len, Loose, has, spend, Fuse, landing. -/
namespace Go.Proofs.Ytbecchoidglaeaa
open Go.RowKit
set_option maxRecDepth 100000

/-- What a disk is, in plain numbers: n sectors; their bytes with and without what is loose; the loose Writes in order; its fuse. -/
structure St where
  n : Nat
  now : Nat → Nat → Nat
  lasts : Nat → Nat → Nat
  lo : List (Nat × (Nat → Nat))
  fused : Bool
  left : Nat
  down : Bool

/-- A loose Write's cells. -/
def wcl (x : Nat × (Nat → Nat)) : List Value := Value.int .i64 (x.1 : Int) :: valsOf x.2 64
def wrs (lo : List (Nat × (Nat → Nat))) : List Value := lo.flatMap wcl
theorem wr_length (x : Nat × (Nat → Nat)) : (wcl x).length = 65 := by simp [wcl, valsOf_length]
theorem wrs_length (lo : List (Nat × (Nat → Nat))) : (wrs lo).length = lo.length * 65 := by
  induction lo with
  | nil => rfl
  | cons x r ih => simp only [wrs, List.flatMap_cons, List.length_append, wr_length, List.length_cons] at *; omega
theorem wr_one (x : Nat × (Nat → Nat)) : ∀ u ∈ wcl x, u.oneCell' = true := by
  intro u hu
  rcases List.mem_cons.1 hu with rfl | hu
  · rfl
  · exact valsOf_one _ _ u hu
theorem wrs_snoc (lo : List (Nat × (Nat → Nat))) (x : Nat × (Nat → Nat)) : wrs (lo ++ [x]) = wrs lo ++ wcl x := by simp [wrs]
theorem wrs_get (lo : List (Nat × (Nat → Nat))) : ∀ (i j : Nat) (x : Nat × (Nat → Nat)), lo[i]? = some x → j < 65 → (wrs lo)[i * 65 + j]? = (wcl x)[j]? := by
  induction lo with
  | nil => intro i j x h; simp at h
  | cons y r ih =>
    intro i j x h hj
    have e : wrs (y :: r) = wcl y ++ wrs r := by simp [wrs]
    rw [e]
    cases i with
    | zero =>
      simp at h
      subst h
      rw [List.getElem?_append_left (by rw [wr_length]; omega), Nat.zero_mul, Nat.zero_add]
    | succ i =>
      rw [List.getElem?_append_right (by rw [wr_length]; omega), wr_length, show (i + 1) * 65 + j - 65 = i * 65 + j from by omega]
      exact ih i j x (by simpa using h) hj

structure DiskIn (w : World) (D N L : Nat) (v : Value) (s : St) : Prop where
  block : w.heap[D]? = some (.cells #[.slice (some ⟨N, 0, none⟩) s.n s.n, .slice (some ⟨L, 0, none⟩) s.n s.n, v, .bool s.fused, .int .i64 (s.left : Int), .bool s.down] 70 (0, 0))
  gn : Grid w N s.n s.now
  gl : Grid w L s.n s.lasts
  own : w.ownsRow 0 95 65 v s.lo.length (wrs s.lo)
  dn : D ≠ N
  dl : D ≠ L
  nl : N ≠ L
  vd : v.ownBlock ≠ some D
  vn : v.ownBlock ≠ some N
  vl : v.ownBlock ≠ some L
  nn : s.n ≤ 1024
  ats : ∀ x ∈ s.lo, x.1 < s.n
  many : s.lo.length ≤ 1000000
  small : s.left < 9223372036854775808

/-- The blocks of a disk. -/
def foot (D N L : Nat) (v : Value) : Nat → Prop := fun b => b = D ∨ b = N ∨ b = L ∨ v.ownBlock = some b
/-- The disk at block D is s; it lies in the blocks F. -/
def Disk (w : World) (D : Nat) (s : St) (F : Nat → Prop) : Prop := ∃ N L v, DiskIn w D N L v s ∧ F = foot D N L v

section
variable {w : World} {D N L : Nat} {v : Value} {s : St}
theorem DiskIn.c0 (h : DiskIn w D N L v s) : w.cell? ⟨D, 0, none⟩ = some (.slice (some ⟨N, 0, none⟩) s.n s.n) := by rw [cell_of_row w D 0 _ _ _ h.block]; rfl
theorem DiskIn.c1 (h : DiskIn w D N L v s) : w.cell? ⟨D, 1, none⟩ = some (.slice (some ⟨L, 0, none⟩) s.n s.n) := by rw [cell_of_row w D 1 _ _ _ h.block]; rfl
theorem DiskIn.c2 (h : DiskIn w D N L v s) : w.cell? ⟨D, 2, none⟩ = some v := by rw [cell_of_row w D 2 _ _ _ h.block]; rfl
theorem DiskIn.c3 (h : DiskIn w D N L v s) : w.cell? ⟨D, 3, none⟩ = some (.bool s.fused) := by rw [cell_of_row w D 3 _ _ _ h.block]; rfl
theorem DiskIn.c4 (h : DiskIn w D N L v s) : w.cell? ⟨D, 4, none⟩ = some (.int .i64 (s.left : Int)) := by rw [cell_of_row w D 4 _ _ _ h.block]; rfl
theorem DiskIn.c5 (h : DiskIn w D N L v s) : w.cell? ⟨D, 5, none⟩ = some (.bool s.down) := by rw [cell_of_row w D 5 _ _ _ h.block]; rfl
theorem DiskIn.fz (h : DiskIn w D N L v s) (i : Nat) : w.frozen? ⟨D, i, none⟩ = false := by simp [World.frozen?, h.block]
theorem DiskIn.lt (h : DiskIn w D N L v s) : D < w.heap.size := by
  rcases Nat.lt_or_ge D w.heap.size with hlt | hge
  · exact hlt
  · have := h.block; rw [Array.getElem?_eq_none hge] at this; cases this
/-- The value of the loose ones, written out. -/
theorem DiskIn.form (h : DiskIn w D N L v s) : ∃ a cap, v = .slice a s.lo.length cap ∧ s.lo.length ≤ cap ∧ (0 < s.lo.length → ∃ g, a = some ⟨g, 0, none⟩) := by
  rcases h.own.2 with ⟨e, h0⟩ | ⟨g, cap, cur, e, _, _, hc, _⟩
  · exact ⟨none, 0, by rw [e, h0], by omega, fun hp => by omega⟩
  · exact ⟨_, cap, e, hc, fun _ => ⟨g, rfl⟩⟩
theorem ownBlock_lt {w : World} {base e size : Nat} {v : Value} {n : Nat} {xs : List Value} (h : w.ownsRow base e size v n xs) (b : Nat) (hb : v.ownBlock = some b) : b < w.heap.size := by
  rcases h.2 with ⟨rfl, _⟩ | ⟨g, cap, cur, rfl, _, hg, _⟩
  · simp [Value.ownBlock] at hb
  · simp [Value.ownBlock] at hb
    subst hb
    rcases Nat.lt_or_ge g w.heap.size with hlt | hge
    · exact hlt
    · rw [Array.getElem?_eq_none hge] at hg; cases hg
theorem DiskIn.foot_lt (h : DiskIn w D N L v s) (b : Nat) (hb : foot D N L v b) : b < w.heap.size := by
  rcases hb with rfl | rfl | rfl | hb
  · exact h.lt
  · exact h.gn.1
  · exact h.gl.1
  · exact ownBlock_lt h.own b hb
/-- A disk stands where none of its blocks is turned. -/
theorem DiskIn.keeps (h : DiskIn w D N L v s) {F : Nat → Prop} {w' : World} (hk : Keeps F w w') (hn : ∀ b, foot D N L v b → ¬ F b) : DiskIn w' D N L v s :=
  { h with
    block := by rw [hk.block D h.lt (hn D (.inl rfl))]; exact h.block
    gn := h.gn.keeps hk (hn N (.inr (.inl rfl)))
    gl := h.gl.keeps hk (hn L (.inr (.inr (.inl rfl))))
    own := by
      refine ⟨h.own.1, ?_⟩
      rcases h.own.2 with hh | ⟨g, cap, cur, e, hb, hg, rest⟩
      · exact .inl hh
      · refine .inr ⟨g, cap, cur, e, hb, ?_, rest⟩
        have : v.ownBlock = some g := by rw [e]; rfl
        rw [hk.block g (ownBlock_lt h.own g this) (hn g (.inr (.inr (.inr this))))]
        exact hg }
end
theorem Disk.keeps {w w' : World} {D : Nat} {s : St} {F G : Nat → Prop} (h : Disk w D s F) (hk : Keeps G w w') (hn : ∀ b, F b → ¬ G b) : Disk w' D s F := by
  obtain ⟨N, L, v, h, rfl⟩ := h
  exact ⟨N, L, v, h.keeps hk hn, rfl⟩
theorem Disk.lt {w : World} {D : Nat} {s : St} {F : Nat → Prop} (h : Disk w D s F) (b : Nat) (hb : F b) : b < w.heap.size := by
  obtain ⟨N, L, v, h, rfl⟩ := h
  exact h.foot_lt b hb

theorem ret_int {k : IntKind} {a b : Int} (h : a = b) : Ending.returned (.int k a) = .returned (.int k b) := by rw [h]
theorem ret_bool {a b : Bool} (h : a = b) : Ending.returned (.bool a) = .returned (.bool b) := by rw [h]
/-- The number from 0 to m that is nearest to n. -/
def clamp (n m : Int) : Int := min (max n 0) m
set_option maxHeartbeats 400000 in
theorem within_any (n m : Int) (w : World) (hn : -9223372036854775808 ≤ n ∧ n ≤ 9223372036854775807) (hm : 0 ≤ m ∧ m ≤ 1000000) :
    Calls Try.prog 30 #[.int .i64 n, .int .i64 m] w fun e w' => e = .returned (.int .i64 (clamp n m)) ∧ w' = w := by
  go_enter Try.func30, Try.ntmps30
  go_wp2
  all_goals (go_ret; refine ⟨ret_int ?_, rfl⟩; unfold clamp; omega)

set_option maxHeartbeats 400000 in
theorem len_nil (w : World) : Calls Try.prog 31 #[.pointer none] w fun e w' => e = .returned (.int .i64 0) ∧ w' = w := by
  go_enter Try.func31, Try.ntmps31
  go_wp2
  go_ret
  exact ⟨rfl, rfl⟩
set_option maxHeartbeats 400000 in
theorem len_in {w : World} {D N L : Nat} {v : Value} {s : St} (h : DiskIn w D N L v s) : Calls Try.prog 31 #[.pointer (some ⟨D, 0, none⟩)] w fun e w' => e = .returned (.int .i64 (s.n : Int)) ∧ w' = w := by
  have c0 := h.c0
  clear h
  go_enter Try.func31, Try.ntmps31
  go_wp2
  go_ret
  exact ⟨rfl, rfl⟩
set_option maxHeartbeats 400000 in
theorem loose_nil (w : World) : Calls Try.prog 55 #[.pointer none] w fun e w' => e = .returned (.int .i64 0) ∧ w' = w := by
  go_enter Try.func55, Try.ntmps55
  go_wp2
  go_ret
  exact ⟨rfl, rfl⟩
set_option maxHeartbeats 400000 in
theorem loose_in {w : World} {D N L : Nat} {v : Value} {s : St} (h : DiskIn w D N L v s) : Calls Try.prog 55 #[.pointer (some ⟨D, 0, none⟩)] w fun e w' => e = .returned (.int .i64 (s.lo.length : Int)) ∧ w' = w := by
  have c2 := h.c2
  obtain ⟨a, cap, hv, _⟩ := h.form
  rw [hv] at c2
  clear hv h
  go_enter Try.func55, Try.ntmps55
  go_wp2
  go_ret
  exact ⟨rfl, rfl⟩
set_option maxHeartbeats 400000 in
theorem has_nil (i : Int) (w : World) : Calls Try.prog 59 #[.pointer none, .int .i64 i] w fun e w' => e = .returned (.bool false) ∧ w' = w := by
  by_cases h0 : 0 ≤ i
  · go_enter Try.func59, Try.ntmps59
    go_wp2_with fail
    refine (len_nil _).mono ?_
    rintro e w1 ⟨rfl, rfl⟩
    go_wp2
    go_ret
    exact ⟨by simp; omega, rfl⟩
  · go_enter Try.func59, Try.ntmps59
    go_wp2
    go_ret
    exact ⟨by simp, rfl⟩
set_option maxHeartbeats 400000 in
theorem has_in {w : World} {D N L : Nat} {v : Value} {s : St} (h : DiskIn w D N L v s) (i : Int) : Calls Try.prog 59 #[.pointer (some ⟨D, 0, none⟩), .int .i64 i] w fun e w' => e = .returned (.bool (decide (0 ≤ i ∧ i < s.n))) ∧ w' = w := by
  by_cases h0 : 0 ≤ i
  · go_enter Try.func59, Try.ntmps59
    go_wp2_with fail
    refine (len_in h).mono ?_
    rintro e w1 ⟨rfl, rfl⟩
    go_wp2
    go_ret
    exact ⟨by simp [h0], rfl⟩
  · go_enter Try.func59, Try.ntmps59
    go_wp2
    go_ret
    exact ⟨by simp; omega, rfl⟩
/-- A store into one of the disk's own six cells that leaves its three slices. -/
theorem DiskIn.fuseSet {w : World} {D N L : Nat} {v : Value} {s : St} (h : DiskIn w D N L v s) (f : Bool) (l : Nat) (dw : Bool) (hl : l < 9223372036854775808) (w' : World) (hk : Keeps (fun b => b = D) w w')
    (hb : w'.heap[D]? = some (.cells #[.slice (some ⟨N, 0, none⟩) s.n s.n, .slice (some ⟨L, 0, none⟩) s.n s.n, v, .bool f, .int .i64 (l : Int), .bool dw] 70 (0, 0))) :
    DiskIn w' D N L v { s with fused := f, left := l, down := dw } :=
  { h with
    block := hb
    gn := h.gn.keeps hk (Ne.symm h.dn)
    gl := h.gl.keeps hk (Ne.symm h.dl)
    own := by
      refine ⟨h.own.1, ?_⟩
      rcases h.own.2 with hh | ⟨g, cap, cur, e, hb, hg, rest⟩
      · exact .inl hh
      · refine .inr ⟨g, cap, cur, e, hb, ?_, rest⟩
        have e2 : v.ownBlock = some g := by rw [e]; rfl
        rw [hk.block g (ownBlock_lt h.own g e2) (fun e3 => by subst e3; exact h.vd e2)]
        exact hg
    small := hl }
theorem heap_set_at (w : World) (g o : Nat) (cur : Array Value) (t : TypeId) (fr : Nat × Nat) (v : Value) (hg : w.heap[g]? = some (.cells cur t fr)) :
    (w.setCell ⟨g, o, none⟩ v).heap[g]? = some (.cells (cur.setIfInBounds o v) t fr) := by
  rw [setCell_eq_setRow w g o cur t fr v hg]
  exact setRow_heap w g cur _ t fr hg

/-- Is there power for one more Write or Flush? -/
def St.power (s : St) : Bool := !s.down && (!s.fused || decide (s.left ≠ 0))
/-- One more is counted; or the power is gone. -/
def St.spent (s : St) : St := { s with left := if s.power && s.fused then s.left - 1 else s.left, down := !s.power }
set_option maxHeartbeats 400000 in
theorem spend_in {w : World} {D N L : Nat} {v : Value} {s : St} (h : DiskIn w D N L v s) : Calls Try.prog 61 #[.pointer (some ⟨D, 0, none⟩)] w fun e w' =>
    e = .returned (.bool s.power) ∧ DiskIn w' D N L v s.spent ∧ Keeps (fun b => b = D) w w' := by
  have H := hide h
  have c3 := h.c3
  have c4 := h.c4
  have c5 := h.c5
  have f4 := h.fz 4
  have f5 := h.fz 5
  have hs := h.small
  obtain ⟨n, now, lasts, lo, fused, left, down⟩ := s
  simp only [] at c3 c4 c5 hs
  clear h
  cases fused with
  | false =>
    cases down with
    | false =>
      go_enter Try.func61, Try.ntmps61
      go_wp2
      go_ret
      exact ⟨rfl, H.out, Keeps.refl _ _⟩
    | true =>
      go_enter Try.func61, Try.ntmps61
      go_wp2
      go_ret
      exact ⟨rfl, H.out, Keeps.refl _ _⟩
  | true =>
    by_cases h0 : left = 0
    · subst h0
      go_enter Try.func61, Try.ntmps61
      go_wp2
      go_ret
      have hb := heap_set_at w D 5 _ _ _ (.bool true) H.out.block
      have hd := H.out.fuseSet true 0 true (by omega) _ ((Keeps.refl _ _).setCell D 5 _ (.inl rfl)) hb
      refine ⟨ret_bool (by simp [St.power]), ?_, (Keeps.refl _ _).setCell D 5 _ (.inl rfl)⟩
      simpa [St.spent, St.power] using hd
    · have e0 : (((left : Nat) : Int) == 0) = false := by rw [beq_eq_false_iff_ne]; omega
      have hl : (0 : Int) < (left : Int) := by omega
      cases down with
      | true =>
        go_enter Try.func61, Try.ntmps61
        go_wp2
        go_ret
        exact ⟨rfl, H.out, Keeps.refl _ _⟩
      | false =>
        go_enter Try.func61, Try.ntmps61
        go_wp2
        go_ret
        refine ⟨ret_bool (by simp [St.power, h0]), ?_, (Keeps.refl _ _).setCell D 4 _ (.inl rfl)⟩
        have hb := heap_set_at w D 4 _ _ _ (.int .i64 ((left : Int) - 1)) H.out.block
        have hd := H.out.fuseSet true (left - 1) false (by omega) _ ((Keeps.refl _ _).setCell D 4 _ (.inl rfl)) (by
          rw [show (((left - 1 : Nat) : Int)) = (left : Int) - 1 from by omega]
          exact hb)
        simpa [St.spent, St.power, h0] using hd
set_option maxHeartbeats 400000 in
theorem fuse_nil (n : Int) (w : World) : Calls Try.prog 19 #[.pointer none, .int .i64 n] w fun e w' => e = .returned (.tuple #[]) ∧ w' = w := by
  go_enter Try.func19, Try.ntmps19
  go_wp2
  refine bodyPost_ret (results_none rfl _ _ _) rfl ?_
  exact ⟨rfl, rfl⟩
/-- Fuse(n). -/
def St.fuse (s : St) (n : Int) : St := { s with fused := true, left := n.toNat }
set_option maxHeartbeats 400000 in
theorem fuse_in {w : World} {D N L : Nat} {v : Value} {s : St} (h : DiskIn w D N L v s) (n : Int) (hn : n ≤ 9223372036854775807) : Calls Try.prog 19 #[.pointer (some ⟨D, 0, none⟩), .int .i64 n] w fun e w' =>
    e = .returned (.tuple #[]) ∧ DiskIn w' D N L v (s.fuse n) ∧ Keeps (fun b => b = D) w w' := by
  have H := hide h
  have c3 := h.c3
  have c4 := h.c4
  have f3 := h.fz 3
  have f4 := h.fz 4
  clear h
  have fin : ∀ m : Int, m = (n.toNat : Int) → DiskIn ((w.setCell ⟨D, 3, none⟩ (.bool true)).setCell ⟨D, 4, none⟩ (.int .i64 m)) D N L v (s.fuse n) := by
    intro m hm
    subst hm
    have hb := heap_set_at w D 3 _ _ _ (.bool true) H.out.block
    have hb2 := heap_set_at _ D 4 _ _ _ (.int .i64 (n.toNat : Int)) hb
    exact H.out.fuseSet true n.toNat s.down (by omega) _ (((Keeps.refl (fun b => b = D) w).setCell D 3 _ (.inl rfl)).setCell D 4 _ (.inl rfl)) hb2
  have HF := hide fin
  clear fin
  by_cases h0 : n < 0
  · go_enter Try.func19, Try.ntmps19
    go_wp2
    go_end0
    exact ⟨rfl, HF.out _ (by omega), ((Keeps.refl (fun b => b = D) w).setCell D 3 _ (.inl rfl)).setCell D 4 _ (.inl rfl)⟩
  · go_enter Try.func19, Try.ntmps19
    go_wp2
    go_end0
    exact ⟨rfl, HF.out _ (by omega), ((Keeps.refl (fun b => b = D) w).setCell D 3 _ (.inl rfl)).setCell D 4 _ (.inl rfl)⟩
theorem bit_and (keep k : Nat) (hk : keep < 18446744073709551616) : (bits .and .u64 ((keep : Int) / 2 ^ k) 1 != 0) = decide (keep / 2 ^ k % 2 = 1) := by
  have hd : keep / 2 ^ k ≤ keep := Nat.div_le_self _ _
  have := u64_and_nat (keep / 2 ^ k) 1 (by omega) (by omega)
  rw [Nat.and_one_is_mod] at this
  rw [show ((keep : Int) / 2 ^ k) = ((keep / 2 ^ k : Nat) : Int) from by norm_cast]
  rw [show (1 : Int) = ((1 : Nat) : Int) from rfl, this]
  rcases Nat.mod_two_eq_zero_or_one (keep / 2 ^ k) with h | h <;> rw [h] <;> decide
/-- How many bytes of loose Write i last behind Crash(keep, torn, at). -/
def lands (i keep : Nat) (torn at_ : Int) : Nat := if (i : Int) = torn then (clamp at_ 64).toNat else if keep / 2 ^ (i % 64) % 2 = 1 then 64 else 0
theorem lands_le (i keep : Nat) (torn at_ : Int) : lands i keep torn at_ ≤ 64 := by
  unfold lands clamp; split
  · omega
  · split <;> omega
set_option maxHeartbeats 400000 in
theorem landing_any (i keep : Nat) (torn at_ : Int) (w : World) (hi : i ≤ 1000000) (hk : keep < 18446744073709551616) (ha : -9223372036854775808 ≤ at_ ∧ at_ ≤ 9223372036854775807) :
    Calls Try.prog 53 #[.int .i64 (i : Int), .int .u64 (keep : Int), .int .i64 torn, .int .i64 at_] w fun e w' => e = .returned (.int .i64 (lands i keep torn at_ : Int)) ∧ w' = w := by
  by_cases h0 : (i : Int) = torn
  · have e0 : ((i : Int) == torn) = true := by rw [beq_iff_eq]; exact h0
    go_enter Try.func53, Try.ntmps53
    go_wp2_with fail
    refine (within_any _ _ _ ha (by omega)).mono ?_
    rintro e w1 ⟨rfl, rfl⟩
    go_wp2
    go_ret
    refine ⟨ret_int ?_, rfl⟩
    unfold lands
    rw [if_pos h0]
    unfold clamp
    omega
  · have e0 : ((i : Int) == torn) = false := by rw [beq_eq_false_iff_ne]; exact h0
    go_enter Try.func53, Try.ntmps53
    go_wp2
    all_goals go_ret
    · refine ⟨ret_int ?_, rfl⟩
      rename_i hb
      rw [bit_and _ (i % 64) hk] at hb
      unfold lands
      rw [if_neg h0, if_pos (by simpa using hb)]
      rfl
    · refine ⟨ret_int ?_, rfl⟩
      rename_i hb
      rw [bit_and _ (i % 64) hk] at hb
      unfold lands
      rw [if_neg h0, if_neg (by simpa using hb)]
      rfl
end Go.Proofs.Ytbecchoidglaeaa
