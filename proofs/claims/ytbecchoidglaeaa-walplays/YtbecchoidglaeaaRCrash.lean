/- The document's Crash. -/
import Derived.Test.YtbecchoidglaeaaGRFoot
namespace Go.Proofs.Ytbecchoidglaeaa
open Go.RowKit
set_option maxRecDepth 100000

/-- append of bytes onto a slice of the call's own that is not nil, whatever is appended. -/
theorem run_append_bytes (w : World) (g0 c0 n : Nat) (xs : List Value) (hown : w.ownsRow 0 5 1 (.slice (some ⟨g0, 0, none⟩) n c0) n xs) (ub uo m c : Nat) (f : Nat → Nat) (hf : ∀ j, j < m → w.cell? ⟨ub, uo + j, none⟩ = some (.int .u8 (f j : Int))) (hs : n + m ≤ 1000000) :
    ∃ g1 c1 w1, (Builtin.append_ #[37, 37] 37 #[.slice (some ⟨g0, 0, none⟩) n c0, .slice (some ⟨ub, uo, none⟩) m c]).run Try.prog w = .ok (.slice (some ⟨g1, 0, none⟩) (n + m) c1) w1 ∧
      w1.ownsRow 0 5 1 (.slice (some ⟨g1, 0, none⟩) (n + m) c1) (n + m) (xs ++ valsOf f m) ∧ Keeps (fun b => b = g0) w w1 ∧ (g1 = g0 ∨ g1 = w.heap.size) := by
  obtain ⟨i0, hi0, hz0, hz1, hz2⟩ := info_parts Try.infoU8
  obtain ⟨v', w', hr, ho, hg, hnil, hat⟩ := run_append_own_at (P := Try.prog) w 0 37 37 5 i0 _ 1 1 Try.underlying37 hi0 hz0 hz1 hz2 rfl (by omega) _ n xs hown ⟨ub, uo, none⟩ m c (valsOf f m) (by rw [valsOf_length]; omega)
    (fun j u hu => by
      have hj : j < m := by simpa [valsOf_length] using (List.getElem?_eq_some_iff.1 hu).1
      rw [valsOf_get _ _ _ hj] at hu
      rw [Addr.add_mid, hf j hj, hu]) (valsOf_one f m) (by unfold maxLen; omega) (by omega) (Nat.zero_le _)
  rcases ho.2 with ⟨e, _⟩ | ⟨g1, c1, cur, e, _⟩
  · have := (hnil.1 e).1
    cases this
  · subst e
    refine ⟨g1, c1, w', hr, ho, (Keeps.refl _ w).grown hg (fun b e => .inl ?_), ?_⟩
    · simp [Value.ownBlock] at e; exact e.symm
    · simp [Value.ownBlock] at hat
      exact hat
/-- append(append([]byte{}, B[:m]...), S[m:]...): the two worlds, and the new page. -/
theorem run_torn (X : World) (vb vo vc ub uo uc ua m : Nat) (f g : Nat → Nat) (hm : m ≤ 64) (hua : m < 64 → ua = uo + m) (hf : ∀ j, j < 64 → X.cell? ⟨vb, vo + j, none⟩ = some (.int .u8 (f j : Int))) (hg : ∀ j, j < 64 → X.cell? ⟨ub, uo + j, none⟩ = some (.int .u8 (g j : Int))) :
    ∃ g1 c1 w1 g2 c2 w2,
      (Builtin.append_ #[37, 37] 37 #[.slice (some ⟨X.heap.size, 0, none⟩) 0 0, .slice (some ⟨vb, vo, none⟩) m vc]).run Try.prog (X.alloc (.cells #[] 5)) = .ok (.slice (some ⟨g1, 0, none⟩) m c1) w1 ∧
      (Builtin.append_ #[37, 37] 37 #[.slice (some ⟨g1, 0, none⟩) m c1, .slice (some ⟨ub, ua, none⟩) (64 - m) uc]).run Try.prog w1 = .ok (.slice (some ⟨g2, 0, none⟩) 64 c2) w2 ∧
      Keeps (fun _ => False) X w1 ∧ Keeps (fun _ => False) X w2 ∧ X.heap.size ≤ g2 ∧ g2 < w2.heap.size ∧ PageAt w2 (fun b => b = g2) (.slice (some ⟨g2, 0, none⟩) 64 c2) (fun j => if j < m then f j else g j) := by
  have k0 : Keeps (fun _ => False) X (X.alloc (.cells #[] 5)) := (Keeps.refl _ _).alloc _
  have ho0 : (X.alloc (.cells #[] 5)).ownsRow 0 5 1 (.slice (some ⟨X.heap.size, 0, none⟩) 0 0) 0 [] := World.ownsRow_made X #[] 0 (Nat.zero_le _) (by unfold maxLen; omega) (by simp)
  obtain ⟨g1, c1, w1, hr1, ho1, hk1, hg1⟩ := run_append_bytes _ X.heap.size 0 0 [] ho0 vb vo m vc f (fun j hj => by rw [k0.cell _ (World.block_lt_of_cell? X _ (hf j (by omega))) (fun h => h)]; exact hf j (by omega)) (by omega)
  have kw1 : Keeps (fun _ => False) X w1 := Keeps.trans k0 (hk1.mono (G := fun b => X.heap.size ≤ b) (fun b _ e => by omega)) (fun b hb hb2 => by omega)
  rw [Nat.zero_add] at hr1 ho1
  have hg1n : X.heap.size ≤ g1 := by rcases hg1 with h | h; omega; simp at h; omega
  obtain ⟨g2, c2, w2, hr2, ho2, hk2, hg2⟩ := run_append_bytes w1 g1 c1 m ([] ++ valsOf f m) ho1 ub ua (64 - m) uc (fun j => g (m + j)) (fun j hj => by
    rw [hua (by omega)]
    rw [kw1.cell _ (World.block_lt_of_cell? X _ (by have := hg (m + j) (by omega); rw [← Nat.add_assoc] at this; exact this)) (fun h => h), Nat.add_assoc]; exact hg (m + j) (by omega)) (by omega)
  rw [show m + (64 - m) = 64 from by omega] at hr2 ho2
  have hsz := kw1.size
  have hg2n : X.heap.size ≤ g2 := by rcases hg2 with h | h; omega; omega
  have kw2 : Keeps (fun _ => False) X w2 := Keeps.trans kw1 (hk2.mono (G := fun b => X.heap.size ≤ b) (fun b _ e => by omega)) (fun b hb hb2 => by omega)
  have hc2 : 64 ≤ c2 := by
    rcases ho2.2 with ⟨e, _⟩ | ⟨g', c', cur, e, _, _, hc, _⟩
    · cases e
    · injection e with _ _ e; omega
  refine ⟨g1, c1, w1, g2, c2, w2, hr1, hr2, kw1, kw2, hg2n, ownBlock_lt ho2 g2 rfl, ⟨g2, 0, c2, rfl, hc2, rfl, fun j hj => ?_⟩⟩
  rw [Nat.zero_add, ho2.cellAt j (by omega), List.nil_append]
  by_cases e : j < m
  · rw [List.getElem?_append_left (by rw [valsOf_length]; exact e), valsOf_get _ _ _ e]; simp only [if_pos e]
  · rw [List.getElem?_append_right (by rw [valsOf_length]; omega), valsOf_length, valsOf_get _ _ _ (by omega), show m + (j - m) = j from by omega]; simp only [if_neg e]

section
variable {P : Program} {a : Act} {w w' : World} {K : Act → World → Prop} {Q : Exit → Act → World → Prop} {dst : Option Tmp} {ty : TypeId} {pos : String} {after : Array Edge} {gd : Option (Nat × Bool)}
theorem kept_append_bytes (x y : Operand) : Oper.wp P { dst := dst, op := .call { callee := .builtin .append, args := #[x, y], argTypes := #[37, 37] }, type := ty, pos := pos, after := after, guard := gd } a w K Q = Kept P { dst := dst, op := .call { callee := .builtin .append, args := #[x, y], argTypes := #[37, 37] }, type := ty, pos := pos, after := after, guard := gd } a w K Q := rfl
theorem kept_append_run (x y : Operand) (p v r : Value) (hr : (Builtin.append_ #[37, 37] 37 #[p, v]).run P w = .ok r w') (hx : a.eval x = p) (hy : a.eval y = v) :
    Kept P { dst := dst, op := .call { callee := .builtin .append, args := #[x, y], argTypes := #[37, 37] }, type := 37, pos := pos, after := after, guard := gd } a w K Q = K (a.put dst r) w' := by
  unfold Kept Oper.wp execOp
  simp only [resolve, invoke, builtin, Sem.run_bind, Sem.run_pure, Result.andThen_ok, List.map_toArray, List.map_cons, List.map_nil, hx, hy, hr]
  rfl
end
/-- What holds when k of the loose ones were looked at. -/
def CrashAt (w wq : World) (V : Nat) (sv lv : Value) (lps : List (Nat × Value)) (P : Nat → Prop) (s : St) (keep : Nat) (torn at_ : Int) (k : Nat) : Prop :=
  ∃ pgs Q, RefIn wq V sv lv pgs lps Q (s.lastly (s.landed keep torn at_ k)) ∧ (∀ b, Q b → P b ∨ w.heap.size ≤ b) ∧ Keeps (fun b => b = V ∨ sv.ownBlock = some b) w wq

theorem crashAt_page {w wr w2 : World} {V sg sc n : Nat} {lv v : Value} {pgs : List Value} {lps : List (Nat × Value)} {P Q : Nat → Prop} {s : St} {keep k : Nat} {torn at_ : Int}
    (hd : RefIn wr V (.slice (some ⟨sg, 0, none⟩) n sc) lv pgs lps Q (s.lastly (s.landed keep torn at_ k))) (hQ : ∀ b, Q b → P b ∨ w.heap.size ≤ b)
    (hk : Keeps (fun b => b = V ∨ (Value.slice (some ⟨sg, 0, none⟩) n sc).ownBlock = some b) w wr) (x : Nat × (Nat → Nat)) (hx : s.lo[k]? = some x) (hxn : x.1 < s.n)
    (hk2 : Keeps (fun _ => False) wr w2) (Q2 : Nat → Prop) (hQ2 : ∀ b, Q b → Q2 b) (hQ2n : ∀ b, Q2 b → Q b ∨ (wr.heap.size ≤ b ∧ b < w2.heap.size)) (f : Nat → Nat) (hp : PageAt w2 Q2 v f)
    (hf : ∀ j, j < 64 → f j = if j < lands k keep torn at_ then x.2 j else s.landed keep torn at_ k x.1 j) :
    CrashAt w (w2.setCell ⟨sg, x.1, none⟩ v) V (.slice (some ⟨sg, 0, none⟩) n sc) lv lps P s keep torn at_ (k + 1) := by
  have h2 := hd.keeps hk2 (fun _ _ h => h) (fun _ _ h => h)
  have hsz := hk2.size
  have h3 := h2.more (Q := Q2) hQ2 (fun b hb => by
    rcases hQ2n b hb with h1 | h1
    · exact h2.plt b h1
    · omega) (fun b hb hq => by
    rcases hQ2n b hq with h1 | h1
    · exact h2.apart b hb h1
    · have := hd.foot_lt b hb; omega)
  obtain ⟨pgs', h4⟩ := h3.layPage x hxn v (lands k keep torn at_) f hp hf
  refine ⟨pgs', Q2, ?_, fun b hb => ?_, ?_⟩
  · have e : s.landed keep torn at_ (k + 1) = putPage (s.landed keep torn at_ k) x.1 (lands k keep torn at_) x.2 := lay_succ _ _ _ k x hx
    rw [e]
    exact h4
  · rcases hQ2n b hb with h1 | h1
    · exact hQ b h1
    · have := hk.size; exact .inr (by omega)
  · exact (Keeps.trans hk hk2 (fun b _ h => h.elim)).setCell _ _ _ (.inl (.inr rfl))
theorem crashAt_skip {w wr w2 : World} {V : Nat} {sv lv : Value} {pgs : List Value} {lps : List (Nat × Value)} {P Q : Nat → Prop} {s : St} {keep k : Nat} {torn at_ : Int}
    (hd : RefIn wr V sv lv pgs lps Q (s.lastly (s.landed keep torn at_ k))) (hQ : ∀ b, Q b → P b ∨ w.heap.size ≤ b) (hk : Keeps (fun b => b = V ∨ sv.ownBlock = some b) w wr) (x : Nat × (Nat → Nat)) (hx : s.lo[k]? = some x)
    (hk2 : Keeps (fun _ => False) wr w2) (hl : lands k keep torn at_ = 0) : CrashAt w w2 V sv lv lps P s keep torn at_ (k + 1) := by
  have h2 := hd.keeps hk2 (fun _ _ h => h) (fun _ _ h => h)
  refine ⟨pgs, Q, ?_, hQ, Keeps.trans hk hk2 (fun b _ h => h.elim)⟩
  have e : s.landed keep torn at_ (k + 1) = putPage (s.landed keep torn at_ k) x.1 (lands k keep torn at_) x.2 := lay_succ _ _ _ k x hx
  have e2 : putPage (s.landed keep torn at_ k) x.1 0 x.2 = s.landed keep torn at_ k := by
    funext i j
    unfold putPage
    rw [if_neg (fun h => by omega)]
  rw [e, hl, e2]
  exact h2
theorem crashAt_end {w Y : World} {V : Nat} {sv lv : Value} {pgs : List Value} {lps : List (Nat × Value)} {P Q : Nat → Prop} {s : St} {keep : Nat} {torn at_ : Int}
    (hd : RefIn Y V sv lv pgs lps Q (s.lastly (s.landed keep torn at_ s.lo.length))) (hQ : ∀ b, Q b → P b ∨ w.heap.size ≤ b) (hk : Keeps (fun b => b = V ∨ sv.ownBlock = some b) w Y) :
    ∃ W' P', RDisk (((Y.setCell ⟨V, 1, none⟩ (.slice none 0 0)).setCell ⟨V, 2, none⟩ (.int .i64 (-1))).setCell ⟨V, 3, none⟩ (.bool false)) V (s.crash keep torn at_) W' P' ∧
      RStep (rfoot V sv lv) P W' P' w (((Y.setCell ⟨V, 1, none⟩ (.slice none 0 0)).setCell ⟨V, 2, none⟩ (.int .i64 (-1))).setCell ⟨V, 3, none⟩ (.bool false)) := by
  have h1 := hd.turnLoose (lps1 := []) (Q := Q) (Keeps.refl (fun _ => False) _) (fun _ _ h => h.elim) [] (lv1 := .slice none 0 0) ⟨rfl, .inl ⟨rfl, rfl⟩⟩ (fun b e => by simp [Value.ownBlock] at e) (fun b hb => hb) hd.plt (fun b hb => .inl hb) (fun b hb => by simp [Value.ownBlock]) (fun k x hx => by simp at hx) (fun x hx => by simp at hx) (by simp)
  have hb1 := heap_set_at _ V 2 _ _ _ (.int .i64 (-1)) h1.block
  have hb2 := heap_set_at _ V 3 _ _ _ (.bool false) hb1
  have h2 := h1.fuseSet { s.crash keep torn at_ with now := s.now } rfl rfl rfl (by simp [St.crash]) _ (((Keeps.refl (fun b => b = V) _).setCell V 2 _ (.inl rfl)).setCell V 3 _ (.inl rfl)) hb2
  refine ⟨_, Q, ⟨_, _, _, _, h2.nowly (s.landed keep torn at_ s.lo.length), rfl⟩, ?_, fun b hb => ?_, hQ⟩
  · refine Keeps.setCell (Keeps.setCell (Keeps.setCell ?_ V 1 _ (.inl (.inl rfl))) V 2 _ (.inl (.inl rfl))) V 3 _ (.inl (.inl rfl))
    exact hk.mono (fun b _ e => by rcases e with e | e; exact .inl e; exact .inr (.inl e))
  · rcases hb with hb | hb | hb
    · exact .inl (.inl hb)
    · exact .inl (.inr (.inl hb))
    · simp [Value.ownBlock] at hb
theorem lands_torn (k keep m : Nat) (at_ : Int) (hm : clamp at_ 64 = (m : Int)) : lands k keep (k : Int) at_ = m := by
  unfold lands
  rw [if_pos rfl, hm]
  simp
theorem lands_kept (k keep : Nat) (torn at_ : Int) (ht : ¬ (k : Int) = torn) (hb : keep / 2 ^ (k % 64) % 2 = 1) : lands k keep torn at_ = 64 := by
  unfold lands
  rw [if_neg ht, if_pos hb]
theorem lands_lost (k keep : Nat) (torn at_ : Int) (ht : ¬ (k : Int) = torn) (hb : ¬ keep / 2 ^ (k % 64) % 2 = 1) : lands k keep torn at_ = 0 := by
  unfold lands
  rw [if_neg ht, if_neg hb]
theorem bit_rem (keep j : Nat) : (((keep : Int) / 2 ^ j).tmod 2 == 1) = decide (keep / 2 ^ j % 2 = 1) := by
  have e : ((keep : Int) / 2 ^ j) = ((keep / 2 ^ j : Nat) : Int) := by norm_cast
  rw [e]
  have e2 : ((keep / 2 ^ j : Nat) : Int).tmod 2 = ((keep / 2 ^ j % 2 : Nat) : Int) := by
    rw [Int.tmod_eq_emod_of_nonneg (Int.natCast_nonneg _)]; norm_cast
  rw [e2]
  rcases Nat.mod_two_eq_zero_or_one (keep / 2 ^ j) with h | h <;> rw [h] <;> decide
end Go.Proofs.Ytbecchoidglaeaa
