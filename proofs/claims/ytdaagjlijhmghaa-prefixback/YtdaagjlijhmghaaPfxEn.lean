/- The program's appendPrefix and Encode. -/
import Derived.Test.YtdaagjlijhmghaaPfxDe
import Derived.Test.YtdaagjlijhmghaaPfxCov
import Derived.Deep.RegionWith
import Derived.Deep.DrawnRows
namespace Go.Proofs.Ytdaagjlijhmghaa
open Go.RowKit
set_option maxRecDepth 100000

/-- append of what lies elsewhere, and what it turns. -/
theorem app_more {t e size bytes : Nat} (he : Elem t e size bytes) {w : World} {B n : Nat} {v : Value} {xs : List Value} (ho : w.ownsRow B e size v n xs) (hB : B ≤ w.heap.size) (a : Addr) (m c : Nat) (news : List Value) (hl : news.length = m * size)
    (hnews : ∀ j u, news[j]? = some u → w.cell? (a.add j) = some u) (h1 : ∀ u ∈ news, u.oneCell' = true) (hn : n + m ≤ 1000000) :
    ∃ v' w', (Builtin.append_ #[t, t] t #[v, .slice (some a) m c]).run Try.prog w = .ok v' w' ∧ w'.ownsRow B e size v' (n + m) (xs ++ news) ∧ Below B w w' ∧ w.grownBy w' v.ownBlock ∧ (v'.ownBlock = v.ownBlock ∨ v'.ownBlock = some w.heap.size) := by
  obtain ⟨i, z, hi, hz, hsz, hby, hzs⟩ := he.info
  have hsm := he.small
  have hb : (n + m) * bytes ≤ 1000000 * 1000 := Nat.mul_le_mul hn hsm
  obtain ⟨v', w', hr, h2, h3, _, h5⟩ := run_append_own_at (P := Try.prog) w B t t e i z size bytes he.sl hi hz hsz hby hzs he.pos v n xs ho a m c news hl hnews h1 (by unfold maxLen; omega) (by omega) hB
  exact ⟨v', w', hr, h2, ((Keeps.refl (fun b => v.ownBlock = some b) w).grown h3 (fun b e => .inl e)).below B hB (fun b e => (own_block ho b e).1), h3, h5⟩
/-- An operation that the walk's own rules are kept from. -/
def Kept (P : Program) (o : Oper) (a : Act) (w : World) (K : Act → World → Prop) (Q : Exit → Act → World → Prop) : Prop := Oper.wp P o a w K Q
section
variable {P : Program} {a : Act} {w w' : World} {K : Act → World → Prop} {Q : Exit → Act → World → Prop} {dst : Option Tmp} {ty : TypeId} {pos : String} {after : Array Edge} {gd : Option (Nat × Bool)}
theorem kept_append (x y : Operand) : Oper.wp P { dst := dst, op := .call { callee := .builtin .append, args := #[x, y], argTypes := #[34, 34] }, type := ty, pos := pos, after := after, guard := gd } a w K Q = Kept P { dst := dst, op := .call { callee := .builtin .append, args := #[x, y], argTypes := #[34, 34] }, type := ty, pos := pos, after := after, guard := gd } a w K Q := rfl
theorem kept_append_intro (x y : Operand) (p q v : Value) (hx : a.eval x = p) (hy : a.eval y = q) (hr : (Builtin.append_ #[34, 34] ty #[p, q]).run P w = .ok v w') (h : K (a.put dst v) w') :
    Kept P { dst := dst, op := .call { callee := .builtin .append, args := #[x, y], argTypes := #[34, 34] }, type := ty, pos := pos, after := after, guard := gd } a w K Q := by
  unfold Kept Oper.wp execOp
  simp only [resolve, invoke, builtin, Sem.run_bind, Sem.run_pure, Result.andThen_ok, List.map_toArray, List.map_cons, List.map_nil, hx, hy, hr]
  exact h
end
/-- The bytes of A/n, up to k of its address. -/
def encUp (A n k : Nat) : List Nat := n :: (List.range k).map (byteAt A)
theorem encUp_succ (A n k : Nat) : encUp A n (k + 1) = encUp A n k ++ [byteAt A k] := by simp [encUp, List.range_succ]
theorem encUp_length (A n k : Nat) : (encUp A n k).length = k + 1 := by simp [encUp]
/-- A row of bytes under way, a box beside it. -/
structure ApSt (w wq : World) (B X A n : Nat) (v : Value) (bs : List Nat) : Prop where
  own : wq.ownsRow B 5 1 v bs.length (bcells bs)
  bel : Below B w wq
  c0 : wq.cell? ⟨X, 0, none⟩ = some (.int .u32 (A : Int))
  c1 : wq.cell? ⟨X, 1, none⟩ = some (.int .i64 (n : Int))
  ne : v.ownBlock ≠ some X
theorem ApSt.more {w wq : World} {B X A n : Nat} {v : Value} {bs : List Nat} (h : ApSt w wq B X A n v bs) (hB : B ≤ wq.heap.size) (y : Nat) (hl : bs.length ≤ 900000) :
    ∃ v' w', (Builtin.append_ #[34, 34] 34 #[v, .slice (some ⟨wq.heap.size, 0, none⟩) 1 1]).run Try.prog (wq.alloc (.cells #[.int .u8 (y : Int)] 5)) = .ok v' w' ∧ ApSt w w' B X A n v' (bs ++ [y]) := by
  have hX := World.block_lt_of_cell? wq _ h.c0
  simp only at hX
  obtain ⟨v', w', hr, h2, h3, h4, h5⟩ := app_more elemU8 (w := wq.alloc (.cells #[.int .u8 (y : Int)] 5)) (h.own.alloc _) (by simp; omega) ⟨wq.heap.size, 0, none⟩ 1 1 (bcells [y]) rfl (fun j u hu => by
    rw [Addr.add_mid, Nat.zero_add, World.cell?_alloc_mark]
    simpa [bcells] using hu) (bcells_one _) (by omega)
  refine ⟨v', w', hr, ?_, (h.bel.alloc hB _).trans h3, ?_, ?_, ?_⟩
  · rw [bcells_app, List.length_append]; exact h2
  · rw [World.cell?_of_block (w := wq.alloc (.cells #[.int .u8 (y : Int)] 5)) (h4.block X (by simp; omega) (Ne.symm h.ne)), World.cell?_alloc_lt _ _ _ (by exact hX)]; exact h.c0
  · rw [World.cell?_of_block (w := wq.alloc (.cells #[.int .u8 (y : Int)] 5)) (h4.block X (by simp; omega) (Ne.symm h.ne)), World.cell?_alloc_lt _ _ _ (by exact hX)]; exact h.c1
  · rcases h5 with h5 | h5
    · rw [h5]; exact h.ne
    · rw [h5]; simp; omega
theorem ApSt.drew {w wq : World} {B X A n : Nat} {v : Value} {bs : List Nat} (h : ApSt w wq B X A n v bs) : ApSt w wq.drew B X A n v bs :=
  ⟨h.own.drew, h.bel.drew, h.c0, h.c1, h.ne⟩
theorem byte_val (A k : Nat) : IntKind.u8.wrap ((A : Int) / 2 ^ (8 * (3 - k))) = ((byteAt A k : Nat) : Int) := by
  rw [IntKind.wrap_u8]
  unfold byteAt
  have e : (A : Int) / 2 ^ (8 * (3 - k)) = ((A / 2 ^ (8 * (3 - k)) : Nat) : Int) := by simp
  rw [e]
  omega
section
attribute [local go_sem ↓] Go.wp_at_zero Go.wp_at_succ kept_append
set_option maxHeartbeats 1600000 in
theorem apx_any (B A n : Nat) (v : Value) (bs : List Nat) (w : World) (hn : n ≤ 32) (ho : w.ownsRow B 5 1 v bs.length (bcells bs)) (hB : B ≤ w.heap.size) (hl : bs.length ≤ 100000) :
    Calls Try.prog 30 #[v, pfx A n] w fun e w' => ∃ v', e = .returned v' ∧ w'.ownsRow B 5 1 v' (bs ++ encOne A n).length (bcells (bs ++ encOne A n)) ∧ Below B w w' := by
  have hnb : v.ownBlock ≠ some w.heap.size := fun e => by have := (own_block ho _ e).2; omega
  have hs0 : ApSt w (w.alloc (.cells #[.int .u32 (A : Int), .int .i64 (n : Int)] 24)) B w.heap.size A n v bs := ⟨ho.alloc _, (Below.refl _ _).alloc hB _, by simp [go_sem], by simp [go_sem], hnb⟩
  obtain ⟨v1, w1, hr1, hs1⟩ := hs0.more (by simp; omega) n (by omega)
  rw [World.size_alloc] at hr1
  have HR1 := hide hr1
  have HS1 : Hid (ApSt w w1 B w.heap.size A n v1 (bs ++ encUp A n 0)) := hs1
  have hs4 := szOf_le n hn
  unfold pfx
  have q1 := hs1.c1
  clear ho hnb hs0 hr1 hs1
  go_enter Try.func30, Try.ntmps30
  go_wp2_with fail
  refine kept_append_intro _ _ v (.slice (some ⟨w.heap.size + 1, 0, none⟩) 1 1) v1 rfl rfl HR1.out ?_
  go_wp2_with fail
  refine (bytesFor_any n _ (by omega)).mono ?_
  rintro e w2 ⟨rfl, rfl⟩
  generalize hse : szOf n = s at *
  have HSE := hide hse
  clear hse HR1
  go_wp2
  go_loopw [0, 15] (fun u i wq => ∃ k : Nat, k ≤ s ∧ i = .int .i64 k ∧ Hid (ApSt w wq B w.heap.size A n u (bs ++ encUp A n k))) (fun _ i _ => s - (intOf i).toNat)
  case atStart => exact ⟨0, Nat.zero_le _, rfl, HS1⟩
  case round =>
    obtain ⟨k, hk, rfl, HS⟩ := hrel
    by_cases hlt : k < s
    · have hk4 : k < 4 := by omega
      have r0 := HS.out.c0
      obtain ⟨v3, w3, hr3, hs3⟩ := HS.out.drew.more (by have := HS.out.bel.size; show B ≤ wr.heap.size; omega) (byteAt A k) (by rw [List.length_append, encUp_length]; omega)
      have HR3 := hide hr3
      have HS3 : Hid (ApSt w w3 B w.heap.size A n v3 (bs ++ encUp A n (k + 1))) := by
        show ApSt _ _ _ _ _ _ _ _
        rw [encUp_succ, ← List.append_assoc]; exact hs3
      have HV := hide (byte_val A k)
      have hq : 8 * (3 - k) < 32 := by omega
      generalize hqe : 8 * (3 - k) = q at *
      generalize hy : byteAt A k = y at *
      clear hr3 hs3 hy
      go_wp2_with fail
      go_region_with (first
        | (go_at_call 39; refine (shiftOf_any k _ hk4).mono ?_; rw [hqe]; rintro e w9 ⟨rfl, rfl⟩)
        | (refine kept_append_intro _ _ u0 (.slice (some ⟨wr.heap.size, 0, none⟩) 1 1) v3 (w' := w3) (by rfl) (by rfl) (by rw [HV.out]; exact HR3.out) ?_))
      all_goals go_wp2
      all_goals exact ⟨⟨k + 1, by omega, by go_num, HS3⟩, by simp [intOf]; omega⟩
    · have hks : k = s := by omega
      subst hks
      go_wp2
      go_ret
      exact ⟨_, rfl, by have := HS.out.own; rw [← HSE.out] at this; exact this, HS.out.bel⟩
end
end Go.Proofs.Ytdaagjlijhmghaa
