/- Rules of the call's own: append. -/
import Derived.Test.YtejbajjkbjaadaaPoF
import Derived.Test.YtejbajjkbjaadaaApE
namespace Go.Proofs.Ytejbajjkbjaadaa
open Go.RowKit
set_option maxRecDepth 100000

theorem Try.infoRule : (Try.prog.info? 32).map (fun i => (i.zero, i.size, i.bytes)) = some (some (.agg #[.int .u32 0, .int .i64 0, .int .i64 0, .int .i64 0, .bool false, .int .i64 0]), 6, 48) := by kernel_rfl
theorem elemRule : Elem 22 32 6 48 := by
  obtain ⟨i, h1, h2, h3, h4⟩ := info_parts Try.infoRule
  exact ⟨Try.underlying22, ⟨i, _, h1, h2, h3, h4, rfl⟩, by omega, by omega⟩
/-- The cells of rules. -/
def rcells : List Rul → List Value
  | [] => []
  | r :: l => .int .u32 (r.A : Int) :: .int .i64 r.L :: .int .i64 r.mn :: .int .i64 r.mx :: .bool r.d :: .int .i64 r.pf :: rcells l
theorem rcells_length (l : List Rul) : (rcells l).length = l.length * 6 := by
  induction l with
  | nil => rfl
  | cons r l ih => simp only [rcells, List.length_cons, ih]; omega
theorem rcells_app (l m : List Rul) : rcells (l ++ m) = rcells l ++ rcells m := by
  induction l with
  | nil => rfl
  | cons r l ih => simp only [List.cons_append, rcells, ih]
theorem rcells_one (l : List Rul) : ∀ u ∈ rcells l, u.oneCell' = true := by
  induction l with
  | nil => intro u hu; simp [rcells] at hu
  | cons r l ih =>
    intro u hu
    simp only [rcells, List.mem_cons] at hu
    rcases hu with rfl | rfl | rfl | rfl | rfl | rfl | hu
    · rfl
    · rfl
    · rfl
    · rfl
    · rfl
    · rfl
    · exact ih u hu
/-- Cells that hold the rules' are rules that are read. -/
theorem rd_of_cells {w : World} {g : Nat} : ∀ (l : List Rul) (o : Nat), (∀ j u, (rcells l)[j]? = some u → w.cell? ⟨g, o + j, none⟩ = some u) → (∀ r ∈ l, r.A < 4294967296) → RulesRd w g o l
  | [], _, _, _ => fun i r hr => by simp at hr
  | x :: l, o, h, hA => fun i r hr => by
    cases i with
    | zero =>
      simp at hr
      subst hr
      refine ⟨⟨?_, ?_, ?_, ?_, ?_, ?_⟩, hA _ (by simp)⟩
      · simpa using h 0 _ rfl
      · simpa using h 1 _ rfl
      · simpa using h 2 _ rfl
      · simpa using h 3 _ rfl
      · simpa using h 4 _ rfl
      · simpa using h 5 _ rfl
    | succ i =>
      have := rd_of_cells l (o + 6) (fun j u hu => by
        have := h (j + 6) u (by simpa [rcells] using hu)
        rwa [show o + (j + 6) = o + 6 + j from by omega] at this) (fun r hr => hA r (by simp [hr])) i r (by simpa using hr)
      rwa [show o + 6 + i * 6 = o + (i + 1) * 6 from by omega] at this
theorem cells_of_rd {w : World} {g : Nat} : ∀ (l : List Rul) (o : Nat), RulesRd w g o l → ∀ j u, (rcells l)[j]? = some u → w.cell? ⟨g, o + j, none⟩ = some u
  | [], _, _ => fun j u hu => by simp [rcells] at hu
  | x :: l, o, h => fun j u hu => by
    have h0 := (h 0 x rfl).1
    simp only [Nat.zero_mul, Nat.add_zero] at h0
    match j, hu with
    | 0, hu => simp [rcells] at hu; subst hu; exact h0.c0
    | 1, hu => simp [rcells] at hu; subst hu; exact h0.c1
    | 2, hu => simp [rcells] at hu; subst hu; exact h0.c2
    | 3, hu => simp [rcells] at hu; subst hu; exact h0.c3
    | 4, hu => simp [rcells] at hu; subst hu; exact h0.c4
    | 5, hu => simp [rcells] at hu; subst hu; exact h0.c5
    | j + 6, hu =>
      have := cells_of_rd l (o + 6) (fun i r hr => by
        have := h (i + 1) r (by simpa using hr)
        rwa [show o + (i + 1) * 6 = o + 6 + i * 6 from by omega] at this) j u (by simpa [rcells] using hu)
      rwa [show o + 6 + j = o + (j + 6) from by omega] at this
theorem RulesIn.mem {w : World} {a : Option Addr} {l : List Rul} (h : RulesIn w a l) : ∀ r ∈ l, r.A < 4294967296 := fun r hr => by
  obtain ⟨i, hi⟩ := List.mem_iff_getElem?.1 hr
  exact h.lt i r hi
/-- A row of the call's own is rules that are read. -/
theorem rules_own {w : World} {B n : Nat} {v : Value} {l : List Rul} (h : w.ownsRow B 32 6 v n (rcells l)) (hn : l.length = n) (hA : ∀ r ∈ l, r.A < 4294967296) : ∃ a c, v = .slice a n c ∧ RulesIn w a l := by
  subst hn
  by_cases hp : 0 < l.length
  · obtain ⟨g, c, rfl, _, _⟩ := h.form hp
    refine ⟨_, _, rfl, .inr ⟨g, 0, rfl, rd_of_cells l 0 (fun j u hu => ?_) hA⟩⟩
    have hj := (List.getElem?_eq_some_iff.1 hu).1
    rw [Nat.zero_add, h.cellAt j (by rw [← rcells_length]; exact hj)]
    exact hu
  · have e : l = [] := by cases l with | nil => rfl | cons r l => simp at hp
    subst e
    rcases h.2 with ⟨rfl, _⟩ | ⟨g, cap, cur, rfl, _⟩
    · exact ⟨_, _, rfl, .inl rfl⟩
    · exact ⟨_, _, rfl, .inl rfl⟩
theorem append_nothing {t e size bytes : Nat} (he : Elem t e size bytes) (w : World) (b : Addr) (n cap c : Nat) (hn : n ≤ cap) :
    (Builtin.append_ #[t, t] t #[.slice (some b) n cap, .slice none 0 c]).run Try.prog w = .ok (.slice (some b) n cap) w := by
  obtain ⟨i, z, hi, _⟩ := he.info
  have ht := he.sl
  simp [Builtin.append_, run_underlying ht, sizeOf, typeInfo, hi, hn, Builtin.lenOf, Builtin.firstCells, go_sem, storeCells]
theorem own_laid (w : World) (B e size : Nat) (cur : Array Value) (n : Nat) (hB : B ≤ w.heap.size) (hc : cur.size = n * size) (hn : n ≤ 1000) : (w.alloc (.cells cur e)).ownsRow B e size (.slice (some ⟨w.heap.size, 0, none⟩) n n) n cur.toList :=
  ⟨by simpa using hc, .inr ⟨w.heap.size, n, cur, rfl, hB, by unfold World.alloc; exact Array.getElem?_push_size, Nat.le_refl _, by unfold maxLen; omega, hc, by rw [← hc, ← Array.length_toList, List.take_length]⟩⟩
/-- Rules behind rules that were laid just now. -/
theorem app_rules {w : World} {B m n c : Nat} {g cap : Nat} {k l : List Rul} {a : Option Addr} (ho : w.ownsRow B 32 6 (.slice (some ⟨g, 0, none⟩) m cap) m (rcells k)) (hm : m ≤ cap) (hk : k.length = m) (hB : B ≤ w.heap.size) (hl : l.length = n) (h : RulesIn w a l) (hs : m + n ≤ 1000) :
    ∃ v' w', (Builtin.append_ #[22, 22] 22 #[.slice (some ⟨g, 0, none⟩) m cap, .slice a n c]).run Try.prog w = .ok v' w' ∧ w'.ownsRow B 32 6 v' (m + n) (rcells (k ++ l)) ∧ Below B w w' := by
  have key : ∀ ad, a = some ad → (∀ j u, (rcells l)[j]? = some u → w.cell? (ad.add j) = some u) → ∃ v' w', (Builtin.append_ #[22, 22] 22 #[.slice (some ⟨g, 0, none⟩) m cap, .slice a n c]).run Try.prog w = .ok v' w' ∧ w'.ownsRow B 32 6 v' (m + n) (rcells (k ++ l)) ∧ Below B w w' := fun ad e hc => by
    subst e
    rw [rcells_app]
    exact app_old elemRule ho hB ad n c (rcells l) (by rw [rcells_length, hl]) hc (rcells_one l) (by omega)
  rcases h with h | ⟨g', o', e, h⟩
  · subst h
    simp at hl
    subst hl
    cases a with
    | none => exact ⟨_, _, append_nothing elemRule w _ m cap c hm, by simpa using ho, Below.refl _ _⟩
    | some ad => exact key ad rfl (fun j u hu => by simp [rcells] at hu)
  · exact key _ e (fun j u hu => by rw [Addr.add_mid]; exact cells_of_rd l o' h j u hu)
section
variable {P : Program} {a : Act} {w w' : World} {K : Act → World → Prop} {Q : Exit → Act → World → Prop} {dst : Option Tmp} {ty : TypeId} {pos : String} {after : Array Edge} {gd : Option (Nat × Bool)}
theorem opwp_append {t : TypeId} (x y : Operand) (p q v : Value) (hx : a.eval x = p) (hy : a.eval y = q) (hr : (Builtin.append_ #[t, t] ty #[p, q]).run P w = .ok v w') (h : K (a.put dst v) w') :
    Oper.wp P { dst := dst, op := .call { callee := .builtin .append, args := #[x, y], argTypes := #[t, t] }, type := ty, pos := pos, after := after, guard := gd } a w K Q := by
  unfold Oper.wp execOp
  simp only [resolve, invoke, builtin, Sem.run_bind, Sem.run_pure, Result.andThen_ok, List.map_toArray, List.map_cons, List.map_nil, hx, hy, hr]
  exact h
end
end Go.Proofs.Ytejbajjkbjaadaa
