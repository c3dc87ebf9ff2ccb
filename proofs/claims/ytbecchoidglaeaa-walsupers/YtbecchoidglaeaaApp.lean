/- append of bytes, whatever is appended: its run, and a law for the walk. -/
import Derived.Test.YtbecchoidglaeaaRDisk
namespace Go.Proofs.Ytbecchoidglaeaa
open Go.RowKit
set_option maxRecDepth 100000

theorem run_append_in (w : World) (g0 c0 n : Nat) (xs : List Value) (hown : w.ownsRow 0 5 1 (.slice (some ⟨g0, 0, none⟩) n c0) n xs) (ba : Option Addr) (bl bc : Nat) (f : Nat → Nat) (hr : Rw w ba bl f) (hn : ba = none → bl = 0 ∧ bc = 0) (hs : n + bl ≤ 1000000) :
    ∃ g1 c1 w1, (Builtin.append_ #[37, 37] 37 #[.slice (some ⟨g0, 0, none⟩) n c0, .slice ba bl bc]).run Try.prog w = .ok (.slice (some ⟨g1, 0, none⟩) (n + bl) c1) w1 ∧
      w1.ownsRow 0 5 1 (.slice (some ⟨g1, 0, none⟩) (n + bl) c1) (n + bl) (xs ++ valsOf f bl) ∧ Keeps (fun b => b = g0) w w1 ∧ (g1 = g0 ∨ g1 = w.heap.size) := by
  obtain ⟨i0, hi0, hz0, hz1, hz2⟩ := info_parts Try.infoU8
  cases ba with
  | none =>
    obtain ⟨rfl, rfl⟩ := hn rfl
    have := run_append_owned_none (P := Try.prog) w 0 37 37 5 i0 1 Try.underlying37 hi0 _ n xs hown
    exact ⟨g0, c0, w, this, by simpa [valsOf] using hown, Keeps.refl _ _, .inl rfl⟩
  | some x =>
    obtain ⟨v', w', hrun, ho, hg, hnil, hat⟩ := run_append_own_at (P := Try.prog) w 0 37 37 5 i0 _ 1 1 Try.underlying37 hi0 hz0 hz1 hz2 rfl (by omega) _ n xs hown x bl bc (valsOf f bl) (by rw [valsOf_length]; omega)
      (fun j u hu => by
        have hj : j < bl := by simpa [valsOf_length] using (List.getElem?_eq_some_iff.1 hu).1
        obtain ⟨b, off, e, hc⟩ := hr.2 (by omega)
        injection e with e
        subst e
        rw [valsOf_get _ _ _ hj] at hu
        rw [Addr.add_mid, hc j hj, hu]) (valsOf_one f bl) (by unfold maxLen; omega) (by omega) (Nat.zero_le _)
    rcases ho.2 with ⟨e, _⟩ | ⟨g1, c1, cur, e, _⟩
    · have := (hnil.1 e).1
      cases this
    · subst e
      refine ⟨g1, c1, w', hrun, ho, (Keeps.refl _ w).grown hg (fun b e => .inl ?_), ?_⟩
      · simp [Value.ownBlock] at e; exact e.symm
      · simp [Value.ownBlock] at hat
        exact hat
section
variable {P : Program} {ops : Array Oper} {rest : List Oper} {a : Act} {w w' : World} {Q : Exit → Act → World → Prop} {dst : Option Tmp} {ty : TypeId} {pos : String} {after : Array Edge}
theorem wpl_append (d s : Operand) (t : TypeId) (p v : Value) (r : Value) (hd : a.eval d = p) (hs : a.eval s = v) (hr : (Builtin.append_ #[t, t] ty #[p, v]).run P w = .ok r w') (h : wpList P ops Q rest (a.put dst r) w') :
    wpList P ops Q ({ dst := dst, op := .call { callee := .builtin .append, args := #[d, s], argTypes := #[t, t] }, type := ty, pos := pos, after := after, guard := none } :: rest) a w :=
  wpList_plain rfl fun K hK => by
    unfold Oper.wp execOp
    simp only [resolve, invoke, builtin, Sem.run_bind, Sem.run_pure, Result.andThen_ok, List.map_toArray, List.map_cons, List.map_nil, hd, hs, hr]
    exact hK _ _ h
end
end Go.Proofs.Ytbecchoidglaeaa
