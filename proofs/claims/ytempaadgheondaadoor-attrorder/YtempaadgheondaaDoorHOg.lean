/- AttrOrder's walk: its body. -/
import Derived.Test.YtempaadgheondaaDoorHMis
import Derived.Test.YtempaadgheondaaDoorHOrd
import Derived.Test.YtempaadgheondaaDoorCpO
import Derived.Deep.RegionHeld3
import Derived.Test.YtempaadgheondaaDoorAtSy
namespace Go.Proofs.YtempaadgheondaaDoor
open Go.RowKit
set_option maxRecDepth 100000

section
variable {P : Program} {a : Act} {w w' : World} {K : Act → World → Prop} {Q : Exit → Act → World → Prop} {dst : Option Tmp} {ty : TypeId} {pos : String} {after : Array Edge} {gd : Option (Nat × Bool)}
theorem kept_appB (x y : Operand) : Oper.wp P { dst := dst, op := .call { callee := .builtin .append, args := #[x, y], argTypes := #[40, 40] }, type := ty, pos := pos, after := after, guard := gd } a w K Q = Kept P { dst := dst, op := .call { callee := .builtin .append, args := #[x, y], argTypes := #[40, 40] }, type := ty, pos := pos, after := after, guard := gd } a w K Q := rfl
theorem kept_appB_intro (x y : Operand) (p q v : Value) (hx : a.eval x = p) (hy : a.eval y = q) (hr : (Builtin.append_ #[40, 40] ty #[p, q]).run P w = .ok v w') (h : K (a.put dst v) w') :
    Kept P { dst := dst, op := .call { callee := .builtin .append, args := #[x, y], argTypes := #[40, 40] }, type := ty, pos := pos, after := after, guard := gd } a w K Q := by
  unfold Kept Oper.wp execOp
  simp only [resolve, invoke, builtin, Sem.run_bind, Sem.run_pure, Result.andThen_ok, List.map_toArray, List.map_cons, List.map_nil, hx, hy, hr]
  exact h
end
/-- The j-th attribute's bytes, where they lie. -/
def pcV (g c2 : Nat) (P : List (Nat × Nat × List Nat)) (j : Nat) : Value := .slice (some ⟨g, (flatA (P.take j)).length, none⟩) ((flatA (P.take (j + 1))).length - (flatA (P.take j)).length) (c2 - (flatA (P.take j)).length)
def pcs (g c2 : Nat) (P : List (Nat × Nat × List Nat)) (k : Nat) : List Value := (List.range k).map (pcV g c2 P)
theorem pcs_snoc (g c2 : Nat) (P : List (Nat × Nat × List Nat)) (k : Nat) : pcs g c2 P (k + 1) = pcs g c2 P k ++ [pcV g c2 P k] := by
  unfold pcs
  rw [List.range_succ, List.map_append]
  rfl
theorem pcs_get (g c2 : Nat) (P : List (Nat × Nat × List Nat)) (k j : Nat) (h : j < k) : (pcs g c2 P k)[j]? = some (pcV g c2 P j) := by
  unfold pcs
  simp [h]
/-- All, turned by k. -/
def turnL (P : List (Nat × Nat × List Nat)) (k : Nat) : List (Nat × Nat × List Nat) := P.drop k ++ P.take k
theorem turnL_length (P : List (Nat × Nat × List Nat)) (k : Nat) (hk : k ≤ P.length) : (turnL P k).length = P.length := by
  unfold turnL
  simp
  omega
theorem turnL_get (P : List (Nat × Nat × List Nat)) (k i : Nat) (hk : k < P.length) (hi : i < P.length) : (turnL P k)[i]? = P[(i + k) % P.length]? := by
  unfold turnL
  by_cases h : i < P.length - k
  · rw [List.getElem?_append_left (by simp; omega), List.getElem?_drop, Nat.mod_eq_of_lt (by omega), Nat.add_comm]
  · rw [List.getElem?_append_right (by simp; omega), List.length_drop, List.getElem?_take, if_pos (by omega)]
    have e : (i + k) % P.length = i - (P.length - k) := by
      rw [Nat.mod_eq_sub_mod (by omega), Nat.mod_eq_of_lt (by omega)]
      omega
    rw [e]
theorem turn_all {a : At} (h : Fine a) (k : Nat) : readA (flatA (turnL (partsA a) k)) = .inr a := by
  have hp := (parts_rise h).imp fun h => Nat.ne_of_lt h
  have hs : (turnL (partsA a) k).Perm (partsA a) := by
    unfold turnL
    exact List.perm_append_comm.trans (by rw [List.take_append_drop])
  refine read_all h _ (fun p hp9 => (hs.mem_iff).1 hp9) ?_ (fun p hp9 => (hs.mem_iff).2 hp9)
  exact (hs.pairwise_iff (fun h => Ne.symm h)).2 hp
theorem turn_twice {a : At} (h : Fine a) (k : Nat) (p : Nat × Nat × List Nat) (hp9 : p ∈ partsA a) : readA (flatA (turnL (partsA a) k) ++ oneB p.1 p.2.1 p.2.2) = .inl (3, 1, []) := by
  have hp := (parts_rise h).imp fun h => Nat.ne_of_lt h
  have hs : (turnL (partsA a) k).Perm (partsA a) := by
    unfold turnL
    exact List.perm_append_comm.trans (by rw [List.take_append_drop])
  have h9 := read_twice h (turnL (partsA a) k) p [] (fun p hp9 => (hs.mem_iff).1 hp9) ((hs.pairwise_iff (fun h => Ne.symm h)).2 hp) ((hs.mem_iff).2 hp9)
  rw [List.append_nil] at h9
  exact h9
theorem turn_mem (P : List (Nat × Nat × List Nat)) (k : Nat) : ∀ x ∈ flatA (turnL P k), x ∈ flatA P := fun x hx => by
  unfold turnL at hx
  rw [← List.take_append_drop k P, flatA_app, List.mem_append]
  rw [flatA_app, List.mem_append] at hx
  exact hx.symm
theorem turn_len (P : List (Nat × Nat × List Nat)) (k : Nat) : (flatA (turnL P k)).length = (flatA P).length := by
  unfold turnL
  conv => rhs; rw [← List.take_append_drop k P]
  rw [flatA_app, flatA_app, List.length_append, List.length_append]
  omega
set_option maxHeartbeats 1600000 in
theorem aord_no (o1 : Int) (pa1 : Option Addr) (pn1 pc1 : Nat) (nx1 : Nat) (md1 pf1 : Int) (ca1 : Option Addr) (cn1 cc1 : Nat) (ra1 : Option Addr) (rn1 rc1 : Nat) (s g : Bool) (z1 : Int) (w : World) (hsg : s = false ∨ g = false)
    (KA : Hid (∀ W, Below w.heap.size w W → Calls Tryd.prog 10 #[] W fun e w' => e = .returned (.bool true) ∧ Below W.heap.size W w'))
    (KM : Hid (∀ W, Below w.heap.size w W → Calls Tryd.prog 9 #[.agg #[.int .i64 o1, .slice pa1 pn1 pc1, .int .u32 (nx1 : Int), .int .i64 md1, .int .i64 pf1, .slice ca1 cn1 cc1, .slice ra1 rn1 rc1]] W fun e w' => e = .returned (.bool s) ∧ Below W.heap.size W w'))
    (KR : Hid (s = true → ∀ W, Below w.heap.size w W → Calls Tryd.prog 13 #[.agg #[.int .i64 o1, .slice pa1 pn1 pc1, .int .u32 (nx1 : Int), .int .i64 md1, .int .i64 pf1, .slice ca1 cn1 cc1, .slice ra1 rn1 rc1]] W fun e w' => e = .returned (.bool g) ∧ Below W.heap.size W w')) :
    Calls Tryd.prog 6 #[.agg #[.int .i64 o1, .slice pa1 pn1 pc1, .int .u32 (nx1 : Int), .int .i64 md1, .int .i64 pf1, .slice ca1 cn1 cc1, .slice ra1 rn1 rc1], .int .u8 z1] w fun e w' => e = .returned (.bool true) ∧ Below w.heap.size w w' := by
  obtain ⟨wb, hwb⟩ : ∃ wb, wb = w.alloc (.cells #[.int .i64 o1, .slice pa1 pn1 pc1, .int .u32 (nx1 : Int), .int .i64 md1, .int .i64 pf1, .slice ca1 cn1 cc1, .slice ra1 rn1 rc1] 27) := ⟨_, rfl⟩
  have HBb : Hid (Below w.heap.size w wb) := by show Below _ _ _; rw [hwb]; exact (Below.refl _ _).alloc (Nat.le_refl _) _
  have hPb : w.heap.size < wb.heap.size := by rw [hwb]; simp
  have C1 : Hid (∀ X, Below wb.heap.size wb X → X.cell? ⟨w.heap.size, 0, none⟩ = some (.int .i64 o1) ∧ X.cell? ⟨w.heap.size, 1, none⟩ = some (.slice pa1 pn1 pc1) ∧ X.cell? ⟨w.heap.size, 2, none⟩ = some (.int .u32 (nx1 : Int)) ∧ X.cell? ⟨w.heap.size, 3, none⟩ = some (.int .i64 md1) ∧ X.cell? ⟨w.heap.size, 4, none⟩ = some (.int .i64 pf1) ∧ X.cell? ⟨w.heap.size, 5, none⟩ = some (.slice ca1 cn1 cc1) ∧ X.cell? ⟨w.heap.size, 6, none⟩ = some (.slice ra1 rn1 rc1)) := fun X hb => by
    have k : ∀ j, X.cell? ⟨w.heap.size, j, none⟩ = wb.cell? ⟨w.heap.size, j, none⟩ := fun j => hb.cell (p := ⟨w.heap.size, j, none⟩) hPb
    simp only [k]
    rw [hwb]
    refine ⟨?_, ?_, ?_, ?_, ?_, ?_, ?_⟩ <;> simp [go_sem]
  go_enter Tryd.func6, Tryd.ntmps6
  go_wp2_with fail
  rw [← hwb]
  clear hwb
  refine (KM.out wb HBb.out).mono ?_
  rintro e w0 ⟨rfl, hb0⟩
  have HB0 : Hid (Below w.heap.size w w0) := HBb.out.trans (hb0.mono HBb.out.size)
  obtain ⟨x0, x1, x2, x3, x4, x5, x6⟩ := C1.out w0 hb0
  clear hb0 KM
  cases s with
  | false =>
    go_wp2_with fail
    refine (KA.out w0 HB0.out).mono ?_
    rintro e w1 ⟨rfl, hb1⟩
    have HB1 : Hid (Below w.heap.size w w1) := HB0.out.trans (hb1.mono HB0.out.size)
    clear hb1
    go_wp2
    go_ret
    exact ⟨rfl, HB1.out⟩
  | true =>
    have hg : g = false := by rcases hsg with h | h; cases h; exact h
    subst hg
    go_wp2_with fail
    refine (KR.out (by trivial) w0 HB0.out).mono ?_
    rintro e w1 ⟨rfl, hb1⟩
    have HB1 : Hid (Below w.heap.size w w1) := HB0.out.trans (hb1.mono HB0.out.size)
    clear hb1
    go_wp2_with fail
    refine (KA.out w1 HB1.out).mono ?_
    rintro e w2 ⟨rfl, hb2⟩
    have HB2 : Hid (Below w.heap.size w w2) := HB1.out.trans (hb2.mono HB1.out.size)
    clear hb2
    go_wp2
    go_ret
    exact ⟨rfl, HB2.out⟩
/-- What has been done of the region that reads them with one twice. -/
def lst19 : Nat → Bool → Bool → Array Bool
  | 0, A, N => #[false, true, false, true, true, true, true, false, false, false, false, false, A, N, false, false]
  | 1, A, N => #[true, true, false, true, true, true, true, false, false, false, false, false, A, N, false, false]
  | 2, A, N => #[true, true, true, true, true, true, true, false, false, false, false, false, A, N, false, false]
  | 3, A, N => #[true, true, true, true, true, true, true, true, false, false, false, false, A, N, false, false]
  | _, A, N => #[true, true, true, true, true, true, true, true, true, true, true, true, A, N, false, false]
theorem lst19_A : ∀ k N, k ≤ 4 → (lst19 k false N).setIfInBounds 12 true = lst19 k true N
  | 0, _, _ => rfl
  | 1, _, _ => rfl
  | 2, _, _ => rfl
  | 3, _, _ => rfl
  | _ + 4, _, _ => rfl
theorem lst19_N : ∀ k A, k ≤ 4 → (lst19 k A false).setIfInBounds 13 true = lst19 k A true
  | 0, _, _ => rfl
  | 1, _, _ => rfl
  | 2, _, _ => rfl
  | 3, _, _ => rfl
  | _ + 4, _, _ => rfl
section
attribute [local go_sem ↓] kept_append kept_appB
set_option maxHeartbeats 6400000 in
theorem aord_go (o1 : Int) (pa1 : Option Addr) (pn1 pc1 : Nat) (nx1 : Nat) (md1 pf1 : Int) (ca1 : Option Addr) (cn1 cc1 : Nat) (ra1 : Option Addr) (rn1 rc1 : Nat) (turn el np : Nat) (P : List (Nat × Nat × List Nat)) (w : World)
    (htu : turn < 256) (hel : (flatA P).length = el) (hel5 : 5 ≤ el) (hel9 : el ≤ 9000) (hE : ∀ x ∈ flatA P, x < 256) (hnp : P.length = np) (hnp3 : 1 ≤ np) (hnp9 : np ≤ 1000)
    (HC : Hid (∀ k (h : k < P.length), P[k].2.1 < 256 ∧ ∃ b0 b2 b3, CutAt (flatA P) (flatA (P.take k)).length P[k].2.1 (oneB P[k].1 P[k].2.1 P[k].2.2).length (oneB P[k].1 P[k].2.1 P[k].2.2) b0 b2 b3))
    (KA : Hid (∀ W, Below w.heap.size w W → Calls Tryd.prog 10 #[] W fun e w' => e = .returned (.bool true) ∧ Below W.heap.size W w'))
    (KM : Hid (∀ W, Below w.heap.size w W → Calls Tryd.prog 9 #[.agg #[.int .i64 o1, .slice pa1 pn1 pc1, .int .u32 (nx1 : Int), .int .i64 md1, .int .i64 pf1, .slice ca1 cn1 cc1, .slice ra1 rn1 rc1]] W fun e w' => e = .returned (.bool true) ∧ Below W.heap.size W w'))
    (KR : Hid (∀ W, Below w.heap.size w W → Calls Tryd.prog 13 #[.agg #[.int .i64 o1, .slice pa1 pn1 pc1, .int .u32 (nx1 : Int), .int .i64 md1, .int .i64 pf1, .slice ca1 cn1 cc1, .slice ra1 rn1 rc1]] W fun e w' => e = .returned (.bool true) ∧ Below W.heap.size W w'))
    (KAT : Hid (∀ W, Below w.heap.size w W → Calls Tryd.prog 15 #[.agg #[.int .i64 o1, .slice pa1 pn1 pc1, .int .u32 (nx1 : Int), .int .i64 md1, .int .i64 pf1, .slice ca1 cn1 cc1, .slice ra1 rn1 rc1]] W fun e w' => ∃ v, e = .returned v ∧ w'.ownsRow W.heap.size 5 1 v el (bcells (flatA P)) ∧ Below W.heap.size W w'))
    (KD1 : Hid (∀ W a9 n9 c9, Below w.heap.size w W → n9 = (flatA (turnL P (turn % np))).length → n9 ≤ c9 → BRd W a9 (flatA (turnL P (turn % np))) → Calls Tryd.prog 16 #[.slice a9 n9 c9] W fun e w' => ∃ p1 j1 p5 j5 p6 j6, e = .returned (.tuple #[.agg #[.int .i64 o1, .slice p1 pn1 j1, .int .u32 (nx1 : Int), .int .i64 md1, .int .i64 pf1, .slice p5 cn1 j5, .slice p6 rn1 j6], .agg #[.int .i64 0, .int .i64 0, .slice none 0 0]]) ∧ Below W.heap.size W w' ∧ ∀ X, Below w'.heap.size w' X → Calls Tryd.prog 17 #[.agg #[.int .i64 o1, .slice pa1 pn1 pc1, .int .u32 (nx1 : Int), .int .i64 md1, .int .i64 pf1, .slice ca1 cn1 cc1, .slice ra1 rn1 rc1], .agg #[.int .i64 o1, .slice p1 pn1 j1, .int .u32 (nx1 : Int), .int .i64 md1, .int .i64 pf1, .slice p5 cn1 j5, .slice p6 rn1 j6]] X fun e w' => e = .returned (.bool true) ∧ Below X.heap.size X w'))
    (KD2 : Hid (∀ (p : Nat × Nat × List Nat), p ∈ P → ∀ W a9 n9 c9, Below w.heap.size w W → n9 = (flatA (turnL P (turn % np)) ++ oneB p.1 p.2.1 p.2.2).length → n9 ≤ c9 → BRd W a9 (flatA (turnL P (turn % np)) ++ oneB p.1 p.2.1 p.2.2) → Calls Tryd.prog 16 #[.slice a9 n9 c9] W fun e w' => ∃ cA ab cb, e = .returned (.tuple #[.agg cA, .agg #[.int .i64 3, .int .i64 1, .slice ab 0 cb]]) ∧ cA.size = 7 ∧ cA.all (·.oneCell') = true ∧ Below W.heap.size W w')) :
    Calls Tryd.prog 6 #[.agg #[.int .i64 o1, .slice pa1 pn1 pc1, .int .u32 (nx1 : Int), .int .i64 md1, .int .i64 pf1, .slice ca1 cn1 cc1, .slice ra1 rn1 rc1], .int .u8 (turn : Int)] w fun e w' => e = .returned (.bool true) ∧ Below w.heap.size w w' := by
  obtain ⟨wb, hwb⟩ : ∃ wb, wb = w.alloc (.cells #[.int .i64 o1, .slice pa1 pn1 pc1, .int .u32 (nx1 : Int), .int .i64 md1, .int .i64 pf1, .slice ca1 cn1 cc1, .slice ra1 rn1 rc1] 27) := ⟨_, rfl⟩
  have HBb : Hid (Below w.heap.size w wb) := by show Below _ _ _; rw [hwb]; exact (Below.refl _ _).alloc (Nat.le_refl _) _
  have hPb : w.heap.size < wb.heap.size := by rw [hwb]; simp
  have C1 : Hid (∀ X, Below wb.heap.size wb X → X.cell? ⟨w.heap.size, 0, none⟩ = some (.int .i64 o1) ∧ X.cell? ⟨w.heap.size, 1, none⟩ = some (.slice pa1 pn1 pc1) ∧ X.cell? ⟨w.heap.size, 2, none⟩ = some (.int .u32 (nx1 : Int)) ∧ X.cell? ⟨w.heap.size, 3, none⟩ = some (.int .i64 md1) ∧ X.cell? ⟨w.heap.size, 4, none⟩ = some (.int .i64 pf1) ∧ X.cell? ⟨w.heap.size, 5, none⟩ = some (.slice ca1 cn1 cc1) ∧ X.cell? ⟨w.heap.size, 6, none⟩ = some (.slice ra1 rn1 rc1)) := fun X hb => by
    have k : ∀ j, X.cell? ⟨w.heap.size, j, none⟩ = wb.cell? ⟨w.heap.size, j, none⟩ := fun j => hb.cell (p := ⟨w.heap.size, j, none⟩) hPb
    simp only [k]
    rw [hwb]
    refine ⟨?_, ?_, ?_, ?_, ?_, ?_, ?_⟩ <;> simp [go_sem]
  have HEL := hide hel
  have HE := hide hE
  have HNP := hide hnp
  clear hel hE hnp
  go_enter Tryd.func6, Tryd.ntmps6
  go_wp2_with fail
  rw [← hwb]
  clear hwb
  refine (KM.out wb HBb.out).mono ?_
  rintro e w0 ⟨rfl, hb0⟩
  have HW0 := hide hb0
  have HB0 : Hid (Below w.heap.size w w0) := HBb.out.trans (hb0.mono HBb.out.size)
  obtain ⟨x0, x1, x2, x3, x4, x5, x6⟩ := C1.out w0 hb0
  clear hb0 KM
  go_wp2_with fail
  refine (KR.out w0 HB0.out).mono ?_
  rintro e w1 ⟨rfl, hb1⟩
  have HW1 := hide (HW0.out.trans (hb1.mono HW0.out.size))
  have HB1 : Hid (Below w.heap.size w w1) := HB0.out.trans (hb1.mono HB0.out.size)
  clear hb1 KR x0 x1 x2 x3 x4 x5 x6
  obtain ⟨x0, x1, x2, x3, x4, x5, x6⟩ := C1.out w1 HW1.out
  go_wp2_with fail
  refine (KAT.out w1 HB1.out).mono ?_
  rintro e w2 ⟨v2, rfl, ho2, hb2⟩
  have HB2 : Hid (Below w.heap.size w w2) := HB1.out.trans (hb2.mono HB1.out.size)
  have HW2 := hide (HW1.out.trans (hb2.mono HW1.out.size))
  clear KAT x0 x1 x2 x3 x4 x5 x6 HW0 HW1 HB0 hb2
  obtain ⟨g, c2, rfl, _, _⟩ := ho2.form (by omega)
  have ho2' : w2.ownsRow w1.heap.size 5 1 (.slice (some ⟨g, 0, none⟩) el c2) (flatA P).length (bcells (flatA P)) := by rw [HEL.out]; exact ho2
  obtain ⟨a2, c9, e2, hc2, hr2⟩ := own_brd ho2' (by rw [HEL.out]; omega) HE.out
  simp only [Value.slice.injEq] at e2
  obtain ⟨rfl, h99, rfl⟩ := e2
  clear h99
  rw [HEL.out] at hc2
  have HR2 := hide hr2
  clear ho2 ho2' hr2
  go_wp2
  go_loopw [6, 7] (fun u i wq => ∃ k : Nat, k ≤ np ∧ i = .int .i64 ((flatA (P.take k)).length : Int) ∧ Hid (wq.ownsRow w2.heap.size 30 1 u k (pcs g c2 P k)) ∧ Hid (Below w2.heap.size w2 wq)) (fun _ i _ => el - (intOf i).toNat)
  case atStart => exact ⟨0, Nat.zero_le _, rfl, own_nil _ _ _ _, Below.refl _ _⟩
  case round =>
    obtain ⟨k, hk, rfl, HO, HB⟩ := hrel
    by_cases hlt : k < np
    · have hkp : k < P.length := by rw [HNP.out]; exact hlt
      obtain ⟨hty, b0, b2, b3, hcut⟩ := HC.out k hkp
      have HT : Hid (flatA (P.take (k + 1)) = flatA (P.take k) ++ oneB P[k].1 P[k].2.1 P[k].2.2) := flatA_take P k hkp
      have hrw := HR2.out.below HB.out
      have y0 := brd_cell hrw hcut.c0
      have y1 := brd_cell hrw hcut.c1
      have y2 := brd_cell hrw hcut.c2
      have hoel := hcut.le
      have hn3 := hcut.n3
      have hb0 := hcut.l0
      have hb2 := hcut.l2
      have hb3 := hcut.l3
      have hway := hcut.way
      have HRW := hide hrw
      have hO1 : (flatA (P.take (k + 1))).length = (flatA (P.take k)).length + (oneB P[k].1 P[k].2.1 P[k].2.2).length := by rw [HT.out, List.length_append]
      rw [HEL.out] at hoel
      clear hcut hrw hty HT
      generalize (oneB P[k].1 P[k].2.1 P[k].2.2).length = n at *
      have HPS := hide (pcs_snoc g c2 P k)
      have hpv : pcV g c2 P k = .slice (some ⟨g, (flatA (P.take k)).length, none⟩) n (c2 - (flatA (P.take k)).length) := by unfold pcV; rw [hO1, Nat.add_sub_cancel_left]
      rw [hpv] at HPS
      clear hpv
      generalize hoo : (flatA (P.take k)).length = o at *
      have i0 : (0 : Int) ≤ (o : Int) := Int.natCast_nonneg _
      have i1 : (o : Int) < (el : Int) := by omega
      have i2 : (o : Int) + 1 < (el : Int) := by omega
      have i3 : (o : Int) + 2 < (el : Int) := by omega
      have hco : ¬ c2 = o := by omega
      have i4 : (o : Int) + (n : Int) ≤ (el : Int) := by omega
      have i5 : (el : Int) ≤ (c2 : Int) := by omega
      clear hoo
      rcases hway with ⟨hw0, hw1⟩ | ⟨hw0, hw1, hw2⟩
      · have j0 : (b0 : Int) / 16 % 2 = 0 := by omega
        have j1 : (3 : Int) + (b2 : Int) = (n : Int) := by omega
        clear hw0 hw1
        obtain ⟨v5, w5, hr5, ho5, hb5⟩ := app_new elemBytes HO.out HB.out.size 1 [.slice (some ⟨g, o, none⟩) n (c2 - o)] rfl (fun u hu => by simp at hu; subst hu; rfl) (by omega) wr.heap.size rfl
        rw [← HPS.out] at ho5
        have HR5 := hide hr5
        have HO5 := hide ho5
        have HB5 : Hid (Below w2.heap.size w2 w5) := HB.out.trans hb5
        clear hr5 ho5 hb5
        go_wp2_with fail
        refine kept_appB_intro _ _ u6 (.slice (some ⟨wr.heap.size, 0, none⟩) 1 1) v5 (w' := w5) (by rfl) (by rfl) (by with_reducible exact HR5.out) ?_
        go_wp2_with fail
        exact ⟨⟨k + 1, by omega, by rw [hO1]; go_num, HO5, HB5⟩, by simp [intOf]; omega⟩
      · have j0 : (b0 : Int) / 16 % 2 = 1 := by omega
        have y3 := brd_cell HRW.out hw2
        have i6 : (o : Int) + 3 < (el : Int) := by omega
        have j1 : (4 : Int) + 256 * (b2 : Int) + (b3 : Int) = (n : Int) := by omega
        clear hw0 hw1 hw2
        go_wp2_with fail
        go_quiet (fail)
        have hbd : Below wr.heap.size wr (wr.drewN nq) := below_drewN (Below.refl _ _) nq
        have HOD := hide (own_later HO.out hbd)
        have HBD := hide (below_drewN HB.out nq)
        generalize wr.drewN nq = wd at *
        clear hbd
        obtain ⟨v5, w5, hr5, ho5, hb5⟩ := app_new elemBytes HOD.out HBD.out.size 1 [.slice (some ⟨g, o, none⟩) n (c2 - o)] rfl (fun u hu => by simp at hu; subst hu; rfl) (by omega) wd.heap.size rfl
        rw [← HPS.out] at ho5
        have HR5 := hide hr5
        have HO5 := hide ho5
        have HB5 : Hid (Below w2.heap.size w2 w5) := HBD.out.trans hb5
        clear hr5 ho5 hb5
        go_wp2_with fail
        refine kept_appB_intro _ _ u6 (.slice (some ⟨wd.heap.size, 0, none⟩) 1 1) v5 (w' := w5) (by rfl) (by rfl) (by with_reducible exact HR5.out) ?_
        go_wp2_with fail
        exact ⟨⟨k + 1, by omega, by rw [hO1]; go_num, HO5, HB5⟩, by simp [intOf]; omega⟩
    · have hkn : np = k := by omega
      subst hkn
      have hkl : P.take np = P := List.take_of_length_le (by rw [HNP.out]; exact Nat.le_refl _)
      rw [hkl, HEL.out]
      obtain ⟨gp, cp, e6, _, _⟩ := HO.out.form (by omega)
      subst e6
      obtain ⟨w3, hw3⟩ : ∃ w3 : World, w3 = wr := ⟨wr, rfl⟩
      subst hw3
      obtain ⟨kk, hkk⟩ : ∃ kk, kk = turn % np := ⟨_, rfl⟩
      rw [← hkk] at KD1 KD2
      have hkn : kk < np := by rw [hkk]; exact Nat.mod_lt _ (by omega)
      have hki : (turn : Int) % (np : Int) = (kk : Int) := by rw [hkk]; simp
      have hn0 : (np : Int) ≠ 0 := by omega
      have hgp := (own_block HO.out gp rfl)
      have HB3 := hide (HB2.out.trans (HB.out.mono HB2.out.size))
      have HW3 := hide (HW2.out.trans (HB.out.mono HW2.out.size))
      have HR3 := hide (HR2.out.below HB.out)
      have HQ : Hid (∀ q, q < np → ∀ X, Below w3.heap.size w3 X → X.cell? ⟨gp, q, none⟩ = some (pcV g c2 P q)) := fun q hq X hX => by
        rw [hX.cell (p := ⟨gp, q, none⟩) hgp.2, HO.out.cellAt q (by omega)]
        exact pcs_get g c2 P np q hq
      have HTL : Hid ((turnL P kk).length = np) := by show _ = _; rw [turnL_length P kk (by rw [HNP.out]; omega), HNP.out]
      have HPQ : Hid (∀ q (h : q < P.length) X, Below w3.heap.size w3 X → ∃ o n, pcV g c2 P q = .slice (some ⟨g, o, none⟩) n (c2 - o) ∧ (oneB P[q].1 P[q].2.1 P[q].2.2).length = n ∧ n ≤ 9000 ∧ BRd X (some ⟨g, o, none⟩) (oneB P[q].1 P[q].2.1 P[q].2.2)) := fun q h X hX => by
        obtain ⟨_, b0, b2, b3, hcut⟩ := HC.out q h
        have h1 := flatA_take P q h
        have hoel := hcut.le
        rw [HEL.out] at hoel
        refine ⟨(flatA (P.take q)).length, (oneB P[q].1 P[q].2.1 P[q].2.2).length, ?_, rfl, by omega, ?_⟩
        · unfold pcV
          rw [h1, List.length_append, Nat.add_sub_cancel_left]
        · have h2 := brd_from (HR3.out.below hX) (flatA (P.take q)).length (oneB P[q].1 P[q].2.1 P[q].2.2).length (by rw [HEL.out]; exact hoel)
          rw [Nat.zero_add, hcut.cut] at h2
          exact h2
      have HFL : Hid (∀ j, (flatA ((turnL P kk).take j)).length ≤ 9000) := fun j => Nat.le_trans (flatA_le (turnL P kk) j) (by rw [turn_len, HEL.out]; exact hel9)
      have hgps : gp < w3.heap.size := hgp.2
      clear hkl hkk hgp HO HB HR2 HC
      go_wp2
      rw [hki]
      clear hki
      go_loopw [10, 11] (fun u i wq => ∃ j : Nat, j ≤ np ∧ i = .int .i64 j ∧ Hid (wq.ownsRow w3.heap.size 5 1 u (flatA ((turnL P kk).take j)).length (bcells (flatA ((turnL P kk).take j)))) ∧ Hid (Below w3.heap.size w3 wq)) (fun _ i _ => np - (intOf i).toNat)
      case atStart => exact ⟨0, Nat.zero_le _, rfl, own_nil _ _ _ _, Below.refl _ _⟩
      case round =>
        obtain ⟨j, hj, rfl, HO, HB⟩ := hrel
        by_cases hlt : j < np
        · obtain ⟨q, hq⟩ : ∃ q, q = (j + kk) % np := ⟨_, rfl⟩
          have hqn : q < np := by rw [hq]; exact Nat.mod_lt _ (by omega)
          have hqi : ((j : Int) + (kk : Int)) % (np : Int) = (q : Int) := by rw [hq]; simp
          have hqp : q < P.length := by rw [HNP.out]; exact hqn
          have hjt : j < (turnL P kk).length := by rw [HTL.out]; exact hlt
          have hge : (turnL P kk)[j] = P[q] := by
            have h1 := turnL_get P kk j (by rw [HNP.out]; omega) (by rw [HNP.out]; omega)
            rw [HNP.out, ← hq, List.getElem?_eq_getElem hjt, List.getElem?_eq_getElem hqp] at h1
            exact Option.some.inj h1
          have HT : Hid (flatA ((turnL P kk).take (j + 1)) = flatA ((turnL P kk).take j) ++ oneB P[q].1 P[q].2.1 P[q].2.2) := by show _ = _; rw [flatA_take (turnL P kk) j hjt, hge]
          have yq := HQ.out q hqn wr HB.out
          obtain ⟨o, n, hpv, hnn, hn9, hbq⟩ := HPQ.out q hqp wr HB.out
          rw [hpv] at yq
          obtain ⟨v5, w5, hr5, ho5, hb5⟩ := app_any (oneB P[q].1 P[q].2.1 P[q].2.2) (some ⟨g, o, none⟩) (c2 - o) HO.out HB.out.size (by have := HFL.out j; rw [hnn]; omega) hbq
          rw [← HT.out] at ho5
          rw [hnn] at hr5
          have HR5 := hide hr5
          have HO5 := hide ho5
          have HB5 : Hid (Below w3.heap.size w3 w5) := HB.out.trans hb5
          have hq0 : (0 : Int) ≤ (q : Int) := Int.natCast_nonneg _
          have hq1 : (q : Int) < (np : Int) := by omega
          clear hr5 ho5 hb5 hbq hpv hge HT hq
          go_wp2_with fail
          refine kept_append_intro _ _ u10 (.slice (some ⟨g, o, none⟩) n (c2 - o)) v5 (w' := w5) (by rfl) (by rfl) (by with_reducible exact HR5.out) ?_
          go_wp2_with fail
          exact ⟨⟨j + 1, by omega, by go_num, HO5, HB5⟩, by simp [intOf]; omega⟩
        · have hjl : (turnL P kk).take j = turnL P kk := List.take_of_length_le (by rw [HTL.out]; omega)
          rw [hjl] at HO
          obtain ⟨w4, hw4⟩ : ∃ w4 : World, w4 = wr := ⟨wr, rfl⟩
          subst hw4
          have htl := turn_len P kk
          rw [HEL.out] at htl
          obtain ⟨a9, c9, e9, hc9, hr9⟩ := own_brd HO.out (by omega) (fun x hx => HE.out x (turn_mem P kk x hx))
          subst e9
          rw [htl]
          have HB4 := hide (HB3.out.trans (HB.out.mono HB3.out.size))
          have HW4 := hide (HW3.out.trans (HB.out.mono HW3.out.size))
          have HD := hide (KD1.out w4 a9 _ c9 HB4.out rfl hc9 hr9)
          have HR9 := hide hr9
          rw [htl] at HD hc9
          clear hjl HO hr9 KD1
          go_wp2_with fail
          refine HD.out.mono ?_
          rintro e w6 ⟨p1, j1, p5, j5, p6, j6, rfl, hb6, hsm⟩
          have HSM := hide hsm
          have HB36 := hide (HB.out.trans (hb6.mono HB.out.size))
          have HB6 := hide (HB4.out.trans (hb6.mono HB4.out.size))
          have HW6 := hide (HW4.out.trans (hb6.mono HW4.out.size))
          have HR6 := hide (HR9.out.below hb6)
          clear hb6 hsm HD HB HB4 HW4 HR9 HB3 HW3
          obtain ⟨w7, hw7⟩ : ∃ w7, w7 = (w6.alloc (.cells #[.int .i64 o1, .slice p1 pn1 j1, .int .u32 (nx1 : Int), .int .i64 md1, .int .i64 pf1, .slice p5 cn1 j5, .slice p6 rn1 j6] 27)).alloc (.cells #[.int .i64 0, .int .i64 0, .slice none 0 0] 34) := ⟨_, rfl⟩
          have hb7 : Below w6.heap.size w6 w7 := by rw [hw7]; exact ((Below.refl _ _).alloc (Nat.le_refl _) _).alloc (by simp) _
          have hs7 : w6.heap.size + 1 < w7.heap.size := by rw [hw7]; simp
          have CY : Hid (∀ X, Below w7.heap.size w7 X → X.cell? ⟨w6.heap.size + 1, 0, none⟩ = some (.int .i64 0) ∧ X.cell? ⟨w6.heap.size, 0, none⟩ = some (.int .i64 o1) ∧ X.cell? ⟨w6.heap.size, 1, none⟩ = some (.slice p1 pn1 j1) ∧ X.cell? ⟨w6.heap.size, 2, none⟩ = some (.int .u32 (nx1 : Int)) ∧ X.cell? ⟨w6.heap.size, 3, none⟩ = some (.int .i64 md1) ∧ X.cell? ⟨w6.heap.size, 4, none⟩ = some (.int .i64 pf1) ∧ X.cell? ⟨w6.heap.size, 5, none⟩ = some (.slice p5 cn1 j5) ∧ X.cell? ⟨w6.heap.size, 6, none⟩ = some (.slice p6 rn1 j6)) := fun X hb => by
            have k : ∀ j, X.cell? ⟨w6.heap.size, j, none⟩ = w7.cell? ⟨w6.heap.size, j, none⟩ := fun j => hb.cell (p := ⟨w6.heap.size, j, none⟩) (by simp only; omega)
            have k9 : X.cell? ⟨w6.heap.size + 1, 0, none⟩ = w7.cell? ⟨w6.heap.size + 1, 0, none⟩ := hb.cell (p := ⟨w6.heap.size + 1, 0, none⟩) hs7
            simp only [k, k9]
            rw [hw7]
            refine ⟨?_, ?_, ?_, ?_, ?_, ?_, ?_, ?_⟩ <;> simp [go_sem]
          have HB7 := hide (HB6.out.trans (hb7.mono HB6.out.size))
          have HW7 := hide (HW6.out.trans (hb7.mono HW6.out.size))
          have HB37 := hide (HB36.out.trans (hb7.mono HB36.out.size))
          have HR7 := hide (HR6.out.below hb7)
          have HSM7 : Hid (∀ X, Below w7.heap.size w7 X → Calls Tryd.prog 17 #[.agg #[.int .i64 o1, .slice pa1 pn1 pc1, .int .u32 (nx1 : Int), .int .i64 md1, .int .i64 pf1, .slice ca1 cn1 cc1, .slice ra1 rn1 rc1], .agg #[.int .i64 o1, .slice p1 pn1 j1, .int .u32 (nx1 : Int), .int .i64 md1, .int .i64 pf1, .slice p5 cn1 j5, .slice p6 rn1 j6]] X fun e w' => e = .returned (.bool true) ∧ Below X.heap.size X w') := fun X hX => HSM.out X (hb7.trans (hX.mono hb7.size))
          obtain ⟨o, n, hpv, hnn, hn9, hbq⟩ := HPQ.out kk (by rw [HNP.out]; exact hkn) w7 HB37.out
          have HCK : Hid (∀ X, Below w7.heap.size w7 X → X.cell? ⟨gp, kk, none⟩ = some (.slice (some ⟨g, o, none⟩) n (c2 - o))) := fun X hX => by
            rw [HQ.out kk hkn X (HB37.out.trans (hX.mono HB37.out.size)), hpv]
          have HBQ := hide hbq
          have HNN := hide hnn
          have HTE := hide htl
          clear hbq hpv hb7 hs7 HSM HB36 HB6 HW6 HR6 HQ hnn htl HFL HPQ
          have hkp : kk < P.length := by rw [HNP.out]; exact hkn
          have hk0 : (0 : Int) ≤ (kk : Int) := Int.natCast_nonneg _
          have hk1 : (kk : Int) < (np : Int) := by omega
          have HD2 : Hid (∀ W v, Below w7.heap.size w7 W → W.ownsRow w7.heap.size 5 1 v (flatA (turnL P kk) ++ oneB P[kk].1 P[kk].2.1 P[kk].2.2).length (bcells (flatA (turnL P kk) ++ oneB P[kk].1 P[kk].2.1 P[kk].2.2)) → Calls Tryd.prog 16 #[v] W fun e w' => ∃ cA cN, e = .returned (.tuple #[.agg cA, .agg cN]) ∧ cA.size = 7 ∧ cN.size = 3 ∧ cA.all (·.oneCell') = true ∧ cN.all (·.oneCell') = true ∧ (∃ ab cb, cN = #[.int .i64 3, .int .i64 1, .slice ab 0 cb]) ∧ Below W.heap.size W w') := fun W v hb ho => by
            obtain ⟨ad, cd, rfl, hcd, hrd⟩ := own_brd ho (by rw [List.length_append, HTE.out, HNN.out]; omega) (fun x hx => by
              rcases List.mem_append.1 hx with h | h
              · exact HE.out x (turn_mem P kk x h)
              · exact HBQ.out.2 x h)
            refine (KD2.out P[kk] (List.getElem_mem hkp) W ad _ cd (HB7.out.trans (hb.mono HB7.out.size)) rfl hcd hrd).mono ?_
            rintro e w' ⟨cA, ab, cb, rfl, z1, z2, z4⟩
            exact ⟨cA, _, rfl, z1, rfl, z2, by simp [Value.oneCell'], ⟨ab, cb, rfl⟩, z4⟩
          clear KD2
          go_wp2_with fail
          rw [← hw7]
          clear hw7
          have hdr : Below w7.heap.size w7 { w7 with drawn := w7.drawn + 1 } := (Below.refl _ w7).drew
          refine wp_region_noPanic ?_
          refine wp_region_held (S := fun W => Below w7.heap.size w7 W) (by kernel_rfl) ?_
          refine take_slot (i := 1) (d := 101) (v := .slice a9 el c9) rfl rfl rfl (by kernel_rfl) (by kernel_rfl) (by kernel_rfl) (fun _ _ _ _ h => h) (fun w _ => op_move _ w _ _ _ rfl rfl) hdr ?_
          simp only [Act.put, List.setIfInBounds_toArray, List.set_cons_zero, List.set_cons_succ]
          refine take_slot (i := 3) (d := 103) (v := .slice (some ⟨gp, 0, none⟩) np cp) rfl rfl rfl (by kernel_rfl) (by kernel_rfl) (by kernel_rfl) (fun _ _ _ _ h => h) (fun w _ => op_move _ w _ _ _ rfl rfl) hdr ?_
          simp only [Act.put, List.setIfInBounds_toArray, List.set_cons_zero, List.set_cons_succ]
          refine take_slot (i := 4) (d := 104) (v := .int .i64 (kk : Int)) rfl rfl rfl (by kernel_rfl) (by kernel_rfl) (by kernel_rfl) (fun _ _ _ _ h => h) (fun w _ => op_move _ w _ _ _ rfl rfl) hdr ?_
          simp only [Act.put, List.setIfInBounds_toArray, List.set_cons_zero, List.set_cons_succ]
          refine take_slot (i := 5) (d := 105) (v := .pointer (some ⟨gp, kk, none⟩)) rfl rfl rfl (by kernel_rfl) (by kernel_rfl) (by kernel_rfl) (fun _ _ _ _ h => h) (fun w _ => by go_simp) hdr ?_
          simp only [Act.put, List.setIfInBounds_toArray, List.set_cons_zero, List.set_cons_succ]
          refine take_slot (i := 6) (d := 106) (v := .slice (some ⟨g, o, none⟩) n (c2 - o)) rfl rfl rfl (by kernel_rfl) (by kernel_rfl) (by kernel_rfl) (fun _ _ _ _ h => h) (fun X hX => by have hck := HCK.out X hX; go_simp) hdr ?_
          simp only [Act.put, List.setIfInBounds_toArray, List.set_cons_zero, List.set_cons_succ]
          refine dec2_region [14, 15, 100, 102, 107, 108, 99, 109, 110] _ w7 _ 14 15 100 101 102 106 107 108 99 109 110 0 2 7 8 9 10 11 12 13 14 15 (flatA (turnL P kk)) (oneB P[kk].1 P[kk].2.1 P[kk].2.2) a9 (some ⟨g, o, none⟩) c9 (c2 - o)
            (fun _ _ cN _ => ∃ ab cb, cN = #[.int .i64 3, .int .i64 1, .slice ab 0 cb])
            lst19 (fun _ _ _ _ h => h) ⟨_, _, _, rfl⟩ ⟨_, _, rfl⟩ ⟨_, _, rfl⟩ ⟨_, _, _, rfl⟩ ⟨_, _, _, rfl⟩ ⟨_, _, _, rfl⟩ ⟨_, _, _, rfl⟩ ⟨_, _, _, rfl⟩ ⟨_, _, _, rfl⟩ ⟨_, _, _, rfl⟩ ⟨_, _, _, rfl⟩ (by kernel_rfl)
            lst19_A lst19_N ?_ ?_ ?_ ?_ ?_ ?_ ?_ ?_ ?_ (by kernel_rfl) (by kernel_rfl) (by kernel_rfl) rfl (by decide) ?_ (by decide) (by decide) ?_ ?_ HR7.out HBQ.out ?_ HD2.out ?_ hdr
          · intro k A N hk
            match k, hk with
            | 0, _ => cases A <;> cases N <;> decide +kernel
            | 1, _ => cases A <;> cases N <;> decide +kernel
            | 2, _ => cases A <;> cases N <;> decide +kernel
            | 3, _ => cases A <;> cases N <;> decide +kernel
          · intro A N h
            cases A <;> cases N <;> first | (cases h; done) | kernel_rfl
          · intro A N; rfl
          · intro A N; rfl
          · intro A N; rfl
          · intro A N; cases A <;> cases N <;> exact ⟨by kernel_rfl, by kernel_rfl⟩
          · intro A N; cases A <;> cases N <;> exact ⟨by kernel_rfl, by kernel_rfl⟩
          · intro A N; cases A <;> cases N <;> exact ⟨by kernel_rfl, by kernel_rfl⟩
          · intro A N; rfl
          · exact (by decide : ∀ s ∈ [14, 15, 100, 102, 107, 108, 99, 109, 110], s < 138)
          · rw [HTE.out]; rfl
          · rw [HNN.out]; rfl
          · rw [HTE.out, HNN.out]; omega
          · intro gA gN cA cN Wc w1 W a hfr pA pN hR _ _ _ _ hov lA lN rA rN
            obtain ⟨ab, cb, rfl⟩ := hR
            have HOV := hide hov
            have m0 : W.cell? ⟨gN, 0, none⟩ = some (.int .i64 3) := rN 0 _ rfl
            have m1 : W.cell? ⟨gN, 1, none⟩ = some (.int .i64 1) := rN 1 _ rfl
            have m2 : W.cell? ⟨gN, 2, none⟩ = some (.slice ab 0 cb) := rN 2 _ rfl
            have hgl := World.block_lt_of_cell? W _ m0
            simp only at hgl
            have HMM : Hid (∀ X, Below W.heap.size W X → X.cell? ⟨gN, 0, none⟩ = some (.int .i64 3) ∧ X.cell? ⟨gN, 1, none⟩ = some (.int .i64 1) ∧ X.cell? ⟨gN, 2, none⟩ = some (.slice ab 0 cb)) := fun X hX => by
              rw [hX.cell (p := ⟨gN, 0, none⟩) hgl, hX.cell (p := ⟨gN, 1, none⟩) hgl, hX.cell (p := ⟨gN, 2, none⟩) hgl]
              exact ⟨m0, m1, m2⟩
            obtain ⟨x0, x1, x2, x3, x4, x5, x6, rfl⟩ := hfr.lay9 (by exact (by decide : ∀ s ∈ [14, 15, 100, 102, 107, 108, 99, 109, 110], s < 138)) pA pN
            clear hfr pA pN hov rA rN m0 m1 m2 hgl
            have HBW := hide (HB7.out.trans (HOV.out.mono HB7.out.size))
            refine NoPanic.normal ?_
            simp only [Act.put, List.setIfInBounds_toArray, List.set_cons_zero, List.set_cons_succ]
            go_wp2_with fail
            refine (KA.out W HBW.out).mono ?_
            rintro e w8 ⟨rfl, hb8⟩
            have hb78 : Below w7.heap.size w7 w8 := HOV.out.trans (hb8.mono HOV.out.size)
            obtain ⟨n0, f0, f1, f2, f3, f4, f5, f6⟩ := CY.out w8 hb78
            obtain ⟨z0, z1, z2, z3, z4, z5, z6⟩ := C1.out w8 (HW7.out.trans (hb78.mono HW7.out.size))
            have HB8 := hide (HBW.out.trans (hb8.mono HBW.out.size))
            have HK8 := hide (HSM7.out w8 hb78)
            have HBB8 := hide hb8
            clear hb8 hb78
            go_wp2_with fail
            refine HK8.out.mono ?_
            rintro e w9 ⟨rfl, hb9⟩
            obtain ⟨m0, m1, m2⟩ := HMM.out w9 (HBB8.out.trans (hb9.mono HBB8.out.size))
            have HB9 := hide (HB8.out.trans (hb9.mono HB8.out.size))
            clear hb9
            go_wp2
            go_ret
            exact ⟨rfl, HB9.out⟩
end
end Go.Proofs.YtempaadgheondaaDoor
/- AttrOrder's walk, whole. -/
namespace Go.Proofs.YtempaadgheondaaDoor
open Go.RowKit
set_option maxRecDepth 100000

theorem parts_short {a : At} (h : Fine a) : ∀ p ∈ partsA a, p.2.2.length ≤ 990 := by
  obtain ⟨h1, h2, _, _, _, h6, _⟩ := h.head
  have hps := goodP_sum h2
  have hpl := goodP_len h2
  have hraw : ∀ r ∈ a.raws, (partR r).2.2.length ≤ 990 := fun r hr => by
    have hk := of_decide_eq_true (h.raw r hr)
    unfold partR
    show r.2.2.length ≤ 990
    omega
  intro p hp
  unfold partsA at hp
  simp only [List.mem_append, List.mem_cons, List.not_mem_nil, or_false, List.mem_map, List.mem_filter] at hp
  rcases hp with ((((((rfl | rfl | rfl) | hp) | hp) | ⟨r, ⟨hr, _⟩, rfl⟩) | hp) | ⟨r, ⟨hr, _⟩, rfl⟩)
  · simp
  · show (encSegs a.path).length ≤ 990
    rw [encSegs_length]
    omega
  · show (b4 _).length ≤ _; rw [b4_length]; omega
  · split at hp
    · simp at hp
      subst hp
      show (b4 _).length ≤ _; rw [b4_length]; omega
    · simp at hp
  · split at hp
    · simp at hp
      subst hp
      show (b4 _).length ≤ _; rw [b4_length]; omega
    · simp at hp
  · exact hraw r hr
  · split at hp
    · simp at hp
      subst hp
      show (encC _).length ≤ _; rw [encC_length]; omega
    · simp at hp
  · exact hraw r hr
theorem attrOrder_walk (pa0 : Option Addr) (pc0 : Nat) (ca0 : Option Addr) (cc0 : Nat) (ra0 : Option Addr) (rc0 : Nat) (a0 : At) (z1 : Int) (W : World) (hS : Said W) (g0 : BigA a0) (h0 : AtRd W pa0 ca0 ra0 a0) (wf1 : (Lit.int IntKind.u8 z1).wf = true) :
    Calls Tryd.prog 6 #[atV pa0 pc0 ca0 cc0 ra0 rc0 a0, .int .u8 z1] W fun e W' => e = .returned (.bool true) ∧ Below W.heap.size W W' := by
  have b1 := bounds_u8 wf1
  obtain ⟨tu, rfl⟩ := Int.eq_ofNat_of_zero_le (show 0 ≤ z1 by omega)
  have KA := fun X (hb : Below W.heap.size W X) => answers_any X (hS.below hb)
  have KM := fun X (hb : Below W.heap.size W X) => smalla_any pa0 pc0 ca0 cc0 ra0 rc0 a0 X g0.path g0.segs g0.comms g0.raws g0.datas (h0.below hb)
  cases hs : smallA a0 with
  | false =>
    rw [hs] at KM
    exact aord_no a0.origin pa0 _ pc0 a0.next a0.med a0.pref ca0 _ cc0 ra0 _ rc0 false false _ W (.inl rfl) KA KM (fun h => by cases h)
  | true =>
    rw [hs] at KM
    have hl := of_decide_eq_true hs
    have KR := fun X (hb : Below W.heap.size W X) => gooda_any pa0 pc0 ca0 cc0 ra0 rc0 a0 X (by omega) (h0.below hb)
    cases hg : goodA a0 with
    | false =>
      rw [hg] at KR
      exact aord_no a0.origin pa0 _ pc0 a0.next a0.med a0.pref ca0 _ cc0 ra0 _ rc0 true false _ W (.inr rfl) KA KM (fun _ => KR)
    | true =>
      rw [hg] at KR
      have hF : Fine a0 := ⟨hg, h0.next, g0.nums⟩
      have hfl := flat_parts a0 hg
      have hlt := encA_lt hF (raws_lt h0)
      have hln := encA_length hF (raws_lt h0) hl
      have hok := parts_ok hF (raws_lt h0)
      have hln5 : 5 ≤ (encA a0).length := by
        rw [enc_first hF]
        have hpos : 0 < (restA a0).length := by
          unfold restA
          have := oneB_pos 64 2 (encSegs a0.path)
          simp only [List.length_append]
          omega
        rw [List.length_append]
        simp only [List.length_cons, List.length_nil]
        omega
      have KAT := fun X (hb : Below W.heap.size W X) => rattrs_any pa0 pc0 ca0 cc0 ra0 rc0 a0 X (by omega) (h0.below hb) g0.nums
      rw [← hfl] at KAT hln hlt hln5
      have HC : ∀ k (h : k < (partsA a0).length), (partsA a0)[k].2.1 < 256 ∧ ∃ b0 b2 b3, CutAt (flatA (partsA a0)) (flatA ((partsA a0).take k)).length (partsA a0)[k].2.1 (oneB (partsA a0)[k].1 (partsA a0)[k].2.1 (partsA a0)[k].2.2).length (oneB (partsA a0)[k].1 (partsA a0)[k].2.1 (partsA a0)[k].2.2) b0 b2 b3 := fun k hk => by
        obtain ⟨q1, q2, q3, q4, _⟩ := hok _ (List.getElem_mem hk)
        exact ⟨q3, cut_at _ k hk q1 q2 q4⟩
      have hnl : (partsA a0).length ≤ 256 := rise_len (partsA a0) 0 (parts_rise hF) (fun p hp => ⟨Nat.zero_le _, (hok p hp).2.2.1⟩)
      have hn1 : 1 ≤ (partsA a0).length := List.length_pos_of_mem (parts_three a0).1
      have hra := fun k => turn_all hF k
      have hrt := fun k p (hp : p ∈ partsA a0) => turn_twice hF k p hp
      have hpl := parts_short hF
      generalize partsA a0 = P at *
      refine aord_go a0.origin pa0 _ pc0 a0.next a0.med a0.pref ca0 _ cc0 ra0 _ rc0 tu (flatA P).length P.length P W (by omega) rfl hln5 hln hlt rfl hn1 (by omega) HC KA KM KR KAT (fun X a9 n9 c9 hb hn hc hrd => ?_) (fun p hp X a9 n9 c9 hb hn hc hrd => ?_)
      · have hl9 : (flatA (turnL P (tu % P.length))).length ≤ 10000 := by rw [turn_len]; omega
        subst hn
        have hd := decode_any a9 c9 _ X (hS.below hb) hl9 hc hrd
        rw [hra] at hd
        refine hd.mono ?_
        rintro e w' ⟨⟨p1, k1, p5, k5, p6, k6, rfl, hp, hcm, hrw⟩, hb9⟩
        refine ⟨p1, k1, p5, k5, p6, k6, rfl, hb9, fun Y hY => ?_⟩
        have hrd2 : AtRd w' p1 p5 p6 a0 := dec_rd h0.next (by omega) (raws_lt h0) hp hcm hrw
        have h9 := samea_any pa0 p1 pc0 k1 ca0 p5 cc0 k5 ra0 p6 rc0 k6 a0 a0 Y (by omega) (by omega) (h0.below (hb.trans ((hb9.trans (hY.mono hb9.size)).mono hb.size))) (hrd2.below hY)
        rw [eqA_refl] at h9
        exact h9
      · have h2 := hpl p hp
        have h3 := oneB_length p.1 p.2.1 p.2.2
        refine (dec_note a9 c9 n9 1 _ [] X (hS.below hb) hn.symm ?_ hc hrd (hrt _ p hp) (by simp) (by simp)).mono ?_
        · rw [hn, List.length_append, turn_len]
          omega
        · rintro e w' ⟨a8, c8, rfl, _, hb9⟩
          exact ⟨_, a8, c8, rfl, rfl, by simp [Value.oneCell'], hb9⟩
end Go.Proofs.YtempaadgheondaaDoor
