/- The program's valueOfGR. -/
import Derived.Test.YtflhohfeahcnfaaGreatDoorCpE
import Derived.Lib.AppendStr
namespace Go.Proofs.YtflhohfeahcnfaaGreatDoor
open Go.RowKit
set_option maxRecDepth 100000

/-- How a family's bytes begin. -/
theorem app_uni {w : World} {B : Nat} {v : Value} {bs : List Nat} (ho : w.ownsRow B 5 1 v bs.length (bcells bs)) (hB : B ≤ w.heap.size) (hl : bs.length ≤ 1000) :
    ∃ v' w', (Builtin.append_ #[22, 9] 22 #[v, .string ⟨#[0, 1, 1]⟩]).run Tryz.prog w = .ok v' w' ∧ w'.ownsRow B 5 1 v' (bs ++ [0, 1, 1]).length (bcells (bs ++ [0, 1, 1])) ∧ Below B w w' := by
  obtain ⟨i, h1, h2, h3, h4⟩ := info_parts Tryz.infoU8
  obtain ⟨v', w', hr, h5, h6, _⟩ := Go.Lib.run_append_own_string (P := Tryz.prog) w B 22 9 22 5 i Tryz.underlying22 Tryz.underlying9 h1 h2 h3 h4 v bs.length (bcells bs) ho ⟨#[0, 1, 1]⟩ (by unfold maxLen; show bs.length + 3 ≤ _; omega) (by show bs.length + 3 ≤ _; omega) hB
  refine ⟨v', w', hr, ?_, ((Keeps.refl (fun b => v.ownBlock = some b) w).grown h6 (fun b e => .inl e)).below B hB (fun b e => (own_block ho b e).1)⟩
  rw [bcells_app, List.length_append]
  exact h5
section
variable {P : Program} {a : Act} {w w' : World} {K : Act → World → Prop} {Q : Exit → Act → World → Prop} {dst : Option Tmp} {ty : TypeId} {pos : String} {after : Array Edge} {gd : Option (Nat × Bool)}
theorem kept_appstr (x y : Operand) : Oper.wp P { dst := dst, op := .call { callee := .builtin .append, args := #[x, y], argTypes := #[22, 9] }, type := ty, pos := pos, after := after, guard := gd } a w K Q = Kept P { dst := dst, op := .call { callee := .builtin .append, args := #[x, y], argTypes := #[22, 9] }, type := ty, pos := pos, after := after, guard := gd } a w K Q := rfl
theorem kept_appstr_intro (x y : Operand) (p q v : Value) (hx : a.eval x = p) (hy : a.eval y = q) (hr : (Builtin.append_ #[22, 9] ty #[p, q]).run P w = .ok v w') (h : K (a.put dst v) w') :
    Kept P { dst := dst, op := .call { callee := .builtin .append, args := #[x, y], argTypes := #[22, 9] }, type := ty, pos := pos, after := after, guard := gd } a w K Q := by
  unfold Kept Oper.wp execOp
  simp only [resolve, invoke, builtin, Sem.run_bind, Sem.run_pure, Result.andThen_ok, List.map_toArray, List.map_cons, List.map_nil, hx, hy, hr]
  exact h
end
section
attribute [local go_sem ↓] kept_append kept_appstr
theorem orI64 (x y : Nat) (hx : x < 4294967296) (hy : y < 4294967296) : bits .or .i64 (x : Int) (y : Int) = ((x ||| y : Nat) : Int) :=
  (bits_nat .i64 32 (by decide) (fun n h0 h1 => by rw [IntKind.wrap_i64]; simp only [Int.reducePow] at h1; omega) _ _ (by simpa using hx) (by simpa using hy)).2
theorem and64 (x y : Nat) (hx : x < 4294967296) (hy : y < 4294967296) : bits .and .i64 (x : Int) (y : Int) = ((x &&& y : Nat) : Int) :=
  (bits_nat .i64 32 (by decide) (fun n h0 h1 => by rw [IntKind.wrap_i64]; simp only [Int.reducePow] at h1; omega) _ _ (by simpa using hx) (by simpa using hy)).1
theorem or_high (T : Nat) (h : T ≤ 4095) : bits .or .i64 (T : Int) 32768 = ((T + 32768 : Nat) : Int) := by
  have e := orI64 T 32768 (by omega) (by omega)
  have e2 : T ||| 32768 = T + 32768 := by
    have := Nat.two_pow_add_eq_or_of_lt (i := 15) (b := T) (by simp only [Nat.reducePow]; omega) 1
    simp only [Nat.reducePow, Nat.mul_one] at this
    rw [Nat.or_comm, ← this]; omega
  rw [e2] at e
  exact e
set_option maxHeartbeats 1600000 in
/-- From the two bytes of the head on. -/
theorem valgr_go (four : Bool) (as4 : Int) (gr rs : Bool) (T Hd : Nat) (fam fwd ll : Bool) (lt : Int) (w : World) (hT : T ≤ 4095) (hH : Hd = T + if rs then 32768 else 0) :
    Calls Tryz.prog 141 #[capV ⟨four, as4, gr, rs, (T : Int), fam, fwd, ll, lt⟩] w fun e w' => ∃ v, e = .returned v ∧ w'.ownsRow w.heap.size 5 1 v (nB Hd 2 ++ famGR ⟨four, as4, gr, rs, (T : Int), fam, fwd, ll, lt⟩).length (bcells (nB Hd 2 ++ famGR ⟨four, as4, gr, rs, (T : Int), fam, fwd, ll, lt⟩)) ∧ Below w.heap.size w w' := by
  have HF : Hid (famGR ⟨four, as4, gr, rs, (T : Int), fam, fwd, ll, lt⟩ = if fam then [0, 1, 1, if fwd then 128 else 0] else []) := rfl
  generalize famGR ⟨four, as4, gr, rs, (T : Int), fam, fwd, ll, lt⟩ = fb at *
  have HN := hide (fun (W : World) (B : Nat) (h : B ≤ W.heap.size) => apnum_any B (.slice none 0 0) [] Hd 2 W (.inl rfl) (by simp) h (own_nil _ _ _ _))
  have hor := or_high T hT
  have HW : Hid (Below w.heap.size w (w.alloc (.cells #[.bool four, .int .i64 as4, .bool gr, .bool rs, .int .i64 (T : Int), .bool fam, .bool fwd, .bool ll, .int .i64 lt] 26))) := below_new _ _
  have HC : Hid (∀ X, Below (w.heap.size + 1) (w.alloc (.cells #[.bool four, .int .i64 as4, .bool gr, .bool rs, .int .i64 (T : Int), .bool fam, .bool fwd, .bool ll, .int .i64 lt] 26)) X → X.cell? ⟨w.heap.size, 5, none⟩ = some (.bool fam) ∧ X.cell? ⟨w.heap.size, 6, none⟩ = some (.bool fwd)) := fun X hb => by
    rw [hb.cell (p := ⟨w.heap.size, 5, none⟩) (Nat.lt_succ_self _), hb.cell (p := ⟨w.heap.size, 6, none⟩) (Nat.lt_succ_self _)]
    constructor <;> simp [go_sem]
  have HR : Hid (∀ W : World, Below (w.heap.size + 1) (w.alloc (.cells #[.bool four, .int .i64 as4, .bool gr, .bool rs, .int .i64 (T : Int), .bool fam, .bool fwd, .bool ll, .int .i64 lt] 26)) W → ∀ v, W.ownsRow (w.heap.size + 1) 5 1 v ([] ++ nB Hd 2).length (bcells ([] ++ nB Hd 2)) → ∃ v2 w2, (Builtin.append_ #[22, 9] 22 #[v, .string ⟨#[0, 1, 1]⟩]).run Tryz.prog W = .ok v2 w2 ∧ Below (w.heap.size + 1) W w2 ∧ ∀ z : Nat, ∃ v3 w3, (Builtin.append_ #[22, 22] 22 #[v2, .slice (some ⟨w2.heap.size, 0, none⟩) 1 1]).run Tryz.prog (w2.alloc (.cells #[.int .u8 (z : Int)] 5)) = .ok v3 w3 ∧ w3.ownsRow w.heap.size 5 1 v3 (nB Hd 2 ++ [0, 1, 1, z]).length (bcells (nB Hd 2 ++ [0, 1, 1, z])) ∧ Below (w.heap.size + 1) w2 w3) := fun W hb v ho => by
    have hs : w.heap.size + 1 ≤ W.heap.size := by have := hb.size; simpa using this
    obtain ⟨v2, w2, hr2, ho2, hb2⟩ := app_uni ho hs (by simp [nB])
    refine ⟨v2, w2, hr2, hb2, fun z => ?_⟩
    obtain ⟨v3, w3, hr3, ho3, hb3, _⟩ := more_bytes ho2 (Nat.le_trans hs hb2.size) [z] 1 #[.int .u8 (z : Int)] rfl (by omega) rfl (by simp [nB])
    refine ⟨v3, w3, hr3, ?_, hb3⟩
    have e : nB Hd 2 ++ [0, 1, 1, z] = [] ++ nB Hd 2 ++ [0, 1, 1] ++ [z] := by simp
    rw [e]
    exact own_base ho3 (Nat.le_succ _)
  unfold capV
  cases rs with
  | true =>
    rw [if_pos rfl] at hH
    rw [← hH] at hor
    clear hH
    cases fam with
    | true =>
      cases fwd with
      | true =>
        go_enter Tryz.func141, Tryz.ntmps141
        go_wp2_with fail
        refine (HN.out _ (w.heap.size + 1) (by simp)).mono ?_
        rintro e w1 ⟨v1, rfl, ho1, hb1⟩
        obtain ⟨c5, c6⟩ := HC.out w1 hb1
        obtain ⟨v2, w2, hr2, hb2, h3⟩ := HR.out w1 hb1 v1 ho1
        obtain ⟨v3, w3, hr3, ho3, hb3⟩ := h3 128
        obtain ⟨d5, d6⟩ := HC.out w2 (hb1.trans hb2)
        have HR2 := hide hr2
        have HR3 := hide hr3
        have HO3 : Hid (w3.ownsRow w.heap.size 5 1 v3 (nB Hd 2 ++ fb).length (bcells (nB Hd 2 ++ fb))) := by show World.ownsRow _ _ _ _ _ _ _; rw [HF.out]; exact ho3
        have HB3 : Hid (Below w.heap.size w w3) := HW.out.trans ((hb1.trans (hb2.trans hb3)).mono (Nat.le_succ _))
        clear hb1 ho1 hr2 hb2 h3 hr3 ho3 hb3 HC HR
        go_wp2_with fail
        refine kept_appstr_intro _ _ _ _ _ (w' := w2) (by rfl) (by rfl) (by exact HR2.out) ?_
        go_wp2_with fail
        refine kept_append_intro _ _ _ _ _ (w' := w3) (by rfl) (by rfl) (by exact HR3.out) ?_
        go_wp2
        go_ret
        exact ⟨_, rfl, HO3.out, HB3.out⟩
      | false =>
        go_enter Tryz.func141, Tryz.ntmps141
        go_wp2_with fail
        refine (HN.out _ (w.heap.size + 1) (by simp)).mono ?_
        rintro e w1 ⟨v1, rfl, ho1, hb1⟩
        obtain ⟨c5, c6⟩ := HC.out w1 hb1
        obtain ⟨v2, w2, hr2, hb2, h3⟩ := HR.out w1 hb1 v1 ho1
        obtain ⟨v3, w3, hr3, ho3, hb3⟩ := h3 0
        obtain ⟨d5, d6⟩ := HC.out w2 (hb1.trans hb2)
        have HR2 := hide hr2
        have HR3 := hide hr3
        have HO3 : Hid (w3.ownsRow w.heap.size 5 1 v3 (nB Hd 2 ++ fb).length (bcells (nB Hd 2 ++ fb))) := by show World.ownsRow _ _ _ _ _ _ _; rw [HF.out]; exact ho3
        have HB3 : Hid (Below w.heap.size w w3) := HW.out.trans ((hb1.trans (hb2.trans hb3)).mono (Nat.le_succ _))
        clear hb1 ho1 hr2 hb2 h3 hr3 ho3 hb3 HC HR
        go_wp2_with fail
        refine kept_appstr_intro _ _ _ _ _ (w' := w2) (by rfl) (by rfl) (by exact HR2.out) ?_
        go_wp2_with fail
        refine kept_append_intro _ _ _ _ _ (w' := w3) (by rfl) (by rfl) (by exact HR3.out) ?_
        go_wp2
        go_ret
        exact ⟨_, rfl, HO3.out, HB3.out⟩
    | false =>
      go_enter Tryz.func141, Tryz.ntmps141
      go_wp2_with fail
      refine (HN.out _ (w.heap.size + 1) (by simp)).mono ?_
      rintro e w1 ⟨v1, rfl, ho1, hb1⟩
      obtain ⟨c5, c6⟩ := HC.out w1 hb1
      have HO3 : Hid (w1.ownsRow w.heap.size 5 1 v1 (nB Hd 2 ++ fb).length (bcells (nB Hd 2 ++ fb))) := by show World.ownsRow _ _ _ _ _ _ _; rw [HF.out]; exact own_base (by simpa using ho1) (Nat.le_succ _)
      have HB3 : Hid (Below w.heap.size w w1) := HW.out.trans (hb1.mono (Nat.le_succ _))
      clear hb1 ho1 HC HR
      go_wp2
      go_ret
      exact ⟨_, rfl, HO3.out, HB3.out⟩
  | false =>
    rw [if_neg (by simp), Nat.add_zero] at hH
    subst hH
    clear hor
    cases fam with
    | true =>
      cases fwd with
      | true =>
        go_enter Tryz.func141, Tryz.ntmps141
        go_wp2_with fail
        refine (HN.out _ (w.heap.size + 1) (by simp)).mono ?_
        rintro e w1 ⟨v1, rfl, ho1, hb1⟩
        obtain ⟨c5, c6⟩ := HC.out w1 hb1
        obtain ⟨v2, w2, hr2, hb2, h3⟩ := HR.out w1 hb1 v1 ho1
        obtain ⟨v3, w3, hr3, ho3, hb3⟩ := h3 128
        obtain ⟨d5, d6⟩ := HC.out w2 (hb1.trans hb2)
        have HR2 := hide hr2
        have HR3 := hide hr3
        have HO3 : Hid (w3.ownsRow w.heap.size 5 1 v3 (nB Hd 2 ++ fb).length (bcells (nB Hd 2 ++ fb))) := by show World.ownsRow _ _ _ _ _ _ _; rw [HF.out]; exact ho3
        have HB3 : Hid (Below w.heap.size w w3) := HW.out.trans ((hb1.trans (hb2.trans hb3)).mono (Nat.le_succ _))
        clear hb1 ho1 hr2 hb2 h3 hr3 ho3 hb3 HC HR
        go_wp2_with fail
        refine kept_appstr_intro _ _ _ _ _ (w' := w2) (by rfl) (by rfl) (by exact HR2.out) ?_
        go_wp2_with fail
        refine kept_append_intro _ _ _ _ _ (w' := w3) (by rfl) (by rfl) (by exact HR3.out) ?_
        go_wp2
        go_ret
        exact ⟨_, rfl, HO3.out, HB3.out⟩
      | false =>
        go_enter Tryz.func141, Tryz.ntmps141
        go_wp2_with fail
        refine (HN.out _ (w.heap.size + 1) (by simp)).mono ?_
        rintro e w1 ⟨v1, rfl, ho1, hb1⟩
        obtain ⟨c5, c6⟩ := HC.out w1 hb1
        obtain ⟨v2, w2, hr2, hb2, h3⟩ := HR.out w1 hb1 v1 ho1
        obtain ⟨v3, w3, hr3, ho3, hb3⟩ := h3 0
        obtain ⟨d5, d6⟩ := HC.out w2 (hb1.trans hb2)
        have HR2 := hide hr2
        have HR3 := hide hr3
        have HO3 : Hid (w3.ownsRow w.heap.size 5 1 v3 (nB Hd 2 ++ fb).length (bcells (nB Hd 2 ++ fb))) := by show World.ownsRow _ _ _ _ _ _ _; rw [HF.out]; exact ho3
        have HB3 : Hid (Below w.heap.size w w3) := HW.out.trans ((hb1.trans (hb2.trans hb3)).mono (Nat.le_succ _))
        clear hb1 ho1 hr2 hb2 h3 hr3 ho3 hb3 HC HR
        go_wp2_with fail
        refine kept_appstr_intro _ _ _ _ _ (w' := w2) (by rfl) (by rfl) (by exact HR2.out) ?_
        go_wp2_with fail
        refine kept_append_intro _ _ _ _ _ (w' := w3) (by rfl) (by rfl) (by exact HR3.out) ?_
        go_wp2
        go_ret
        exact ⟨_, rfl, HO3.out, HB3.out⟩
    | false =>
      go_enter Tryz.func141, Tryz.ntmps141
      go_wp2_with fail
      refine (HN.out _ (w.heap.size + 1) (by simp)).mono ?_
      rintro e w1 ⟨v1, rfl, ho1, hb1⟩
      obtain ⟨c5, c6⟩ := HC.out w1 hb1
      have HO3 : Hid (w1.ownsRow w.heap.size 5 1 v1 (nB Hd 2 ++ fb).length (bcells (nB Hd 2 ++ fb))) := by show World.ownsRow _ _ _ _ _ _ _; rw [HF.out]; exact own_base (by simpa using ho1) (Nat.le_succ _)
      have HB3 : Hid (Below w.heap.size w w1) := HW.out.trans (hb1.mono (Nat.le_succ _))
      clear hb1 ho1 HC HR
      go_wp2
      go_ret
      exact ⟨_, rfl, HO3.out, HB3.out⟩
theorem valgr_any (c : Cp) (w : World) (h : gGR c = true) : Calls Tryz.prog 141 #[capV c] w fun e w' => ∃ v, e = .returned v ∧ w'.ownsRow w.heap.size 5 1 v (vGR c).length (bcells (vGR c)) ∧ Below w.heap.size w w' := by
  obtain ⟨h1, h2⟩ := gGR_tm h
  have hl := headGR_lt h
  have e : vGR c = nB (headGR c) 2 ++ famGR c := by
    rw [nB2]
    unfold vGR
    rw [Nat.mod_eq_of_lt (show headGR c / 256 < 256 by omega)]; rfl
  rw [e]
  obtain ⟨four, as4, gr, rs, tm, fam, fwd, ll, lt⟩ := c
  obtain ⟨T, rfl⟩ := Int.eq_ofNat_of_zero_le h1
  exact valgr_go four as4 gr rs T _ fam fwd ll lt w (by simp only at h2; omega) rfl
end
end Go.Proofs.YtflhohfeahcnfaaGreatDoor
