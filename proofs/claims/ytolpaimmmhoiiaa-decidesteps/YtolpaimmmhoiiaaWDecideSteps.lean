/- The walk of DecideSteps (written by tools/gen_dcs.py). -/
import Derived.Test.YtolpaimmmhoiiaaHDt
namespace Go.Proofs.Ytolpaimmmhoiiaa
open Go.RowKit
set_option maxRecDepth 100000

theorem heap_alloc_new (w : World) (o : Obj) : (w.alloc o).heap[w.heap.size]? = some o := by unfold World.alloc; exact Array.getElem?_push_size
theorem heap_alloc_old (w : World) (o : Obj) (i : Nat) (h : i < w.heap.size) : (w.alloc o).heap[i]? = w.heap[i]? := by
  unfold World.alloc
  simp [Array.getElem?_push, Nat.ne_of_lt h]
section
variable {P : Program} {a : Act} {w w' : World} {K : Act → World → Prop} {Q : Exit → Act → World → Prop} {dst : Option Tmp} {ty : TypeId} {pos : String} {after : Array Edge} {gd : Option (Nat × Bool)}
theorem keptI_store (x y : Operand) : Oper.wp P { dst := dst, op := .store 3 x y, type := ty, pos := pos, after := after, guard := gd } a w K Q = Kept P { dst := dst, op := .store 3 x y, type := ty, pos := pos, after := after, guard := gd } a w K Q := rfl
theorem keptU_store (x y : Operand) : Oper.wp P { dst := dst, op := .store 32 x y, type := ty, pos := pos, after := after, guard := gd } a w K Q = Kept P { dst := dst, op := .store 32 x y, type := ty, pos := pos, after := after, guard := gd } a w K Q := rfl
theorem keptS_store (x y : Operand) : Oper.wp P { dst := dst, op := .store 35 x y, type := ty, pos := pos, after := after, guard := gd } a w K Q = Kept P { dst := dst, op := .store 35 x y, type := ty, pos := pos, after := after, guard := gd } a w K Q := rfl
theorem keptZ_app (x y : Operand) : Oper.wp P { dst := dst, op := .call { callee := .builtin .append, args := #[x, y], argTypes := #[45, 3] }, type := ty, pos := pos, after := after, guard := gd } a w K Q = Kept P { dst := dst, op := .call { callee := .builtin .append, args := #[x, y], argTypes := #[45, 3] }, type := ty, pos := pos, after := after, guard := gd } a w K Q := rfl
theorem keptZ_intro {t u : TypeId} (x y : Operand) (p q v : Value) (hx : a.eval x = p) (hy : a.eval y = q) (hr : (Builtin.append_ #[t, u] ty #[p, q]).run P w = .ok v w') (h : K (a.put dst v) w') : Kept P { dst := dst, op := .call { callee := .builtin .append, args := #[x, y], argTypes := #[t, u] }, type := ty, pos := pos, after := after, guard := gd } a w K Q := by
  unfold Kept Oper.wp execOp
  simp only [resolve, invoke, builtin, Sem.run_bind, Sem.run_pure, Result.andThen_ok, List.map_toArray, List.map_cons, List.map_nil, hx, hy, hr]
  exact h
end
theorem run_stI {w : World} {X j : Nat} {v : Int} {old : Value} (c : w.cell? ⟨X, j, none⟩ = some old) (f : w.frozen? ⟨X, j, none⟩ = false) : (Instr.storeAt 3 (.pointer (some ⟨X, j, none⟩)) (.int .i64 v)).run Try.prog w = .ok () (w.setCell ⟨X, j, none⟩ (.int .i64 v)) := by
  have z := World.block_lt_of_cell? w _ c
  simp only at z
  go_simp
theorem run_stU {w : World} {X j : Nat} {v : Int} {old : Value} (c : w.cell? ⟨X, j, none⟩ = some old) (f : w.frozen? ⟨X, j, none⟩ = false) : (Instr.storeAt 32 (.pointer (some ⟨X, j, none⟩)) (.int .u32 v)).run Try.prog w = .ok () (w.setCell ⟨X, j, none⟩ (.int .u32 v)) := by
  have z := World.block_lt_of_cell? w _ c
  simp only at z
  go_simp
theorem run_stS {w : World} {X j : Nat} {p : Option Addr} {n k : Nat} {old : Value} (c : w.cell? ⟨X, j, none⟩ = some old) (f : w.frozen? ⟨X, j, none⟩ = false) : (Instr.storeAt 35 (.pointer (some ⟨X, j, none⟩)) (.slice p n k)).run Try.prog w = .ok () (w.setCell ⟨X, j, none⟩ (.slice p n k)) := by
  have z := World.block_lt_of_cell? w _ c
  simp only at z
  go_simp
theorem wrap_u16 (n : Int) : IntKind.u16.wrap n = n % 65536 := rfl
theorem wrap_u32 (n : Int) : IntKind.u32.wrap n = n % 4294967296 := rfl
/-- The path of 7 and k noughts, in memory of its own. -/
theorem pth7z {w : World} {g G k c : Nat} (h : ∀ j z, ((7 : Int) :: List.replicate k 0)[j]? = some z → w.cell? ⟨g, j, none⟩ = some (.int .i64 z)) (hk : k < 9) (h1 : w.heap[G]? = some (.cells #[.bool false, .slice (some ⟨g, 0, none⟩) (k + 1) c] 47 (0, 0))) : PthRd w (some ⟨G, 0, none⟩) (p7z k) := by
  refine ⟨fun _ => ⟨_, _, rfl, fun i s hi => ?_⟩, by simp [p7z, maxLen], fun s hs => ?_⟩
  · match i, hi with
    | 0, hi =>
      simp [p7z] at hi
      subst hi
      refine ⟨cell_at h1 0 rfl, some ⟨g, 0, none⟩, c, ?_, fun _ => ⟨_, _, rfl, fun j z hz => ?_⟩⟩
      · have := cell_at h1 1 rfl
        simpa using this
      · rw [Nat.zero_add]
        exact h j z hz
    | q + 1, hi => simp [p7z] at hi
  · simp [p7z] at hs
    subst hs
    simp [maxLen]
    omega
/-- A path of 7 and k noughts, in memory. -/
structure P7 (w : World) (g G k c : Nat) : Prop where
  nums : ∀ j z, ((7 : Int) :: List.replicate k 0)[j]? = some z → w.cell? ⟨g, j, none⟩ = some (.int .i64 z)
  seg : w.heap[G]? = some (.cells #[.bool false, .slice (some ⟨g, 0, none⟩) (k + 1) c] 47 (0, 0))
theorem P7.below {w w' : World} {g G k c : Nat} (h : P7 w g G k c) (hb : Below w.heap.size w w') : P7 w' g G k c :=
  ⟨fun j z hj => by rw [hb.cell (p := ⟨g, j, none⟩) (World.block_lt_of_cell? w _ (h.nums j z hj))]; exact h.nums j z hj, by rw [hb.block _ (Array.getElem?_eq_some_iff.1 h.seg).1]; exact h.seg⟩
theorem P7.set {w : World} {g G k c b o : Nat} {v : Value} (h : P7 w g G k c) (h1 : b ≠ g) (h2 : b ≠ G) : P7 (w.setCell ⟨b, o, none⟩ v) g G k c :=
  ⟨fun j z hj => by rw [World.cell?_of_block (a := ⟨g, j, none⟩) (heap_setCell w b o v g (fun e => h1 e.symm))]; exact h.nums j z hj, by rw [heap_setCell w b o v G (fun e => h2 e.symm)]; exact h.seg⟩
theorem P7.pth {w : World} {g G k c : Nat} (h : P7 w g G k c) (hk : k < 9) : PthRd w (some ⟨G, 0, none⟩) (p7z k) := pth7z h.nums hk h.seg
section
attribute [local go_sem ↓] keptR_load keptR_store keptR_box keptR_alloc keptR_build keptA_build keptR_two keptI_store keptU_store keptS_store keptZ_app
set_option maxHeartbeats 6400000 in
theorem decideSteps_walk (zw za zb : Nat) (w : World) (hw : zw < 256) (ha : za < 65536) (hb : zb < 65536) :
    Calls Try.prog 7 #[.int .u8 (zw : Int), .int .u16 (za : Int), .int .u16 (zb : Int)] w fun e w' => e = .returned (.bool true) ∧ Below w.heap.size w w' := by
  have KA : Hid (∀ W, Calls Try.prog 9 #[] W fun e w' => e = .returned (.bool true) ∧ Below W.heap.size W w') := answersD_any
  go_enter Try.func7, Try.ntmps7
  go_wp2_with fail
  refine kept_build3_intro _ _ _ _ _ _ _ _ _ _ (by rfl) (by rfl) (by rfl) (run_attP _ _ _ _) ?_
  go_wp2_with fail
  refine kept_build2_intro _ _ _ _ _ _ _ (by rfl) (by rfl) (run_rtP _ _ _) ?_
  have HB1 : Hid (Below w.heap.size w ((w.alloc (.cells #[.int .i64 7, .int .i64 8] 3)).alloc (.cells #[.bool false, .slice (some ⟨w.heap.size, 0, none⟩) 2 2] 47))) := ((Below.refl _ _).alloc (Nat.le_refl _) _).alloc (by simp) _
  have hb0 : ((w.alloc (.cells #[.int .i64 7, .int .i64 8] 3)).alloc (.cells #[.bool false, .slice (some ⟨w.heap.size, 0, none⟩) 2 2] 47)).heap[w.heap.size]? = some (.cells #[.int .i64 7, .int .i64 8] 3 (0, 0)) := by
    rw [heap_alloc_old _ _ _ (by simp)]
    exact heap_alloc_new _ _
  have hb1 : ((w.alloc (.cells #[.int .i64 7, .int .i64 8] 3)).alloc (.cells #[.bool false, .slice (some ⟨w.heap.size, 0, none⟩) 2 2] 47)).heap[w.heap.size + 1]? = some (.cells #[.bool false, .slice (some ⟨w.heap.size, 0, none⟩) 2 2] 47 (0, 0)) := by
    have := heap_alloc_new (w.alloc (.cells #[.int .i64 7, .int .i64 8] 3)) (.cells #[.bool false, .slice (some ⟨w.heap.size, 0, none⟩) 2 2] 47)
    rw [World.size_alloc] at this
    exact this
  have z1 : ((w.alloc (.cells #[.int .i64 7, .int .i64 8] 3)).alloc (.cells #[.bool false, .slice (some ⟨w.heap.size, 0, none⟩) 2 2] 47)).heap.size = w.heap.size + 2 := by simp
  generalize (w.alloc (.cells #[.int .i64 7, .int .i64 8] 3)).alloc (.cells #[.bool false, .slice (some ⟨w.heap.size, 0, none⟩) 2 2] 47) = w1 at *
  have HZ1 := hide z1
  clear z1
  go_wp2_with fail
  refine kept_alloc_intro _ (run_allocR _) ?_
  go_wp2_with fail
  refine kept_store_intro _ _ _ (.agg (rtC (some ⟨w.heap.size + 1, 0, none⟩) 1 none 0 none 0 (twoR 1 p78 0 (-1) 100 0))) (by rfl) (by rfl) (run_storeR (Bl.new w1 zR) rfl (RC.rt _ _ _ _ _ _ _)) ?_
  have b2 : Below w1.heap.size w1 ((w1.alloc (.cells zR 41)).setCells w1.heap.size 0 (rtC (some ⟨w.heap.size + 1, 0, none⟩) 1 none 0 none 0 (twoR 1 p78 0 (-1) 100 0)).toList) := below_puts ((Below.refl _ _).alloc (Nat.le_refl _) _) (Nat.le_refl _) _
  have bx : Bl ((w1.alloc (.cells zR 41)).setCells w1.heap.size 0 (rtC (some ⟨w.heap.size + 1, 0, none⟩) 1 none 0 none 0 (twoR 1 p78 0 (-1) 100 0)).toList) w1.heap.size (rtC (some ⟨w.heap.size + 1, 0, none⟩) 1 none 0 none 0 (twoR 1 p78 0 (-1) 100 0)) := (Bl.new w1 zR).put rfl
  have hs2 : ((w1.alloc (.cells zR 41)).setCells w1.heap.size 0 (rtC (some ⟨w.heap.size + 1, 0, none⟩) 1 none 0 none 0 (twoR 1 p78 0 (-1) 100 0)).toList).heap.size = w.heap.size + 3 := by rw [size_puts, World.size_alloc, HZ1.out]
  generalize (w1.alloc (.cells zR 41)).setCells w1.heap.size 0 (rtC (some ⟨w.heap.size + 1, 0, none⟩) 1 none 0 none 0 (twoR 1 p78 0 (-1) 100 0)).toList = w2 at *
  rw [HZ1.out] at bx ⊢
  have HX2 := hide bx
  have h20 := (b2.block _ (Array.getElem?_eq_some_iff.1 hb0).1).trans hb0
  have h21 := (b2.block _ (Array.getElem?_eq_some_iff.1 hb1).1).trans hb1
  have HB2 : Hid (Below w.heap.size w w2) := HB1.out.trans (b2.mono HB1.out.size)
  have HZ2 := hide hs2
  clear b2 bx hb0 hb1 hs2 HB1 HZ1
  go_wp2_with fail
  refine kept_load_intro _ _ _ (by rfl) (run_loadR HX2.out (RC.rt _ _ _ _ _ _ _)) ?_
  go_wp2_with fail
  refine kept_alloc_intro _ (run_allocR _) ?_
  go_wp2_with fail
  refine kept_store_intro _ _ _ (.agg (rtC (some ⟨w.heap.size + 1, 0, none⟩) 1 none 0 none 0 (twoR 1 p78 0 (-1) 100 0))) (by rfl) (by rfl) (run_storeR (Bl.new w2 zR) rfl (RC.rt _ _ _ _ _ _ _)) ?_
  have b3 : Below w2.heap.size w2 ((w2.alloc (.cells zR 41)).setCells w2.heap.size 0 (rtC (some ⟨w.heap.size + 1, 0, none⟩) 1 none 0 none 0 (twoR 1 p78 0 (-1) 100 0)).toList) := below_puts ((Below.refl _ _).alloc (Nat.le_refl _) _) (Nat.le_refl _) _
  have by3 : Bl ((w2.alloc (.cells zR 41)).setCells w2.heap.size 0 (rtC (some ⟨w.heap.size + 1, 0, none⟩) 1 none 0 none 0 (twoR 1 p78 0 (-1) 100 0)).toList) w2.heap.size (rtC (some ⟨w.heap.size + 1, 0, none⟩) 1 none 0 none 0 (twoR 1 p78 0 (-1) 100 0)) := (Bl.new w2 zR).put rfl
  have hs3 : ((w2.alloc (.cells zR 41)).setCells w2.heap.size 0 (rtC (some ⟨w.heap.size + 1, 0, none⟩) 1 none 0 none 0 (twoR 1 p78 0 (-1) 100 0)).toList).heap.size = w.heap.size + 4 := by rw [size_puts, World.size_alloc, HZ2.out]
  generalize (w2.alloc (.cells zR 41)).setCells w2.heap.size 0 (rtC (some ⟨w.heap.size + 1, 0, none⟩) 1 none 0 none 0 (twoR 1 p78 0 (-1) 100 0)).toList = w3 at *
  rw [HZ2.out] at by3 ⊢
  have HX3 := hide (HX2.out.below b3)
  have HY3 := hide by3
  have h30 := (b3.block _ (Array.getElem?_eq_some_iff.1 h20).1).trans h20
  have h31 := (b3.block _ (Array.getElem?_eq_some_iff.1 h21).1).trans h21
  have HB3 : Hid (Below w.heap.size w w3) := HB2.out.trans (b3.mono HB2.out.size)
  have HZ3 := hide hs3
  clear b3 by3 h20 h21 hs3 HB2 HZ2 HX2
  go_wp2_with fail
  refine kept_store_intro _ _ _ _ (by rfl) (by rfl) (run_stI (HY3.out.cell 2 rfl) (HY3.out.frozen 2)) ?_
  have bx4 : Bl (w3.setCell ⟨w.heap.size + 3, 2, none⟩ (.int .i64 2)) (w.heap.size + 2) (rtC (some ⟨w.heap.size + 1, 0, none⟩) 1 none 0 none 0 (twoR 1 p78 0 (-1) 100 0)) := HX3.out.other 2 _ (by omega)
  have by4 : Bl (w3.setCell ⟨w.heap.size + 3, 2, none⟩ (.int .i64 2)) (w.heap.size + 3) (rtC (some ⟨w.heap.size + 1, 0, none⟩) 1 none 0 none 0 (twoR 2 p78 0 (-1) 100 0)) := HY3.out.set 2 _
  have h40 : (w3.setCell ⟨w.heap.size + 3, 2, none⟩ (.int .i64 2)).heap[w.heap.size]? = some (.cells #[.int .i64 7, .int .i64 8] 3 (0, 0)) := by rw [heap_setCell w3 _ 2 _ w.heap.size (by omega)]; exact h30
  have h41 : (w3.setCell ⟨w.heap.size + 3, 2, none⟩ (.int .i64 2)).heap[w.heap.size + 1]? = some (.cells #[.bool false, .slice (some ⟨w.heap.size, 0, none⟩) 2 2] 47 (0, 0)) := by rw [heap_setCell w3 _ 2 _ (w.heap.size + 1) (by omega)]; exact h31
  have HB4 : Hid (Below w.heap.size w (w3.setCell ⟨w.heap.size + 3, 2, none⟩ (.int .i64 2))) := HB3.out.setCell (by simp only; omega) _
  have hz4 : (w3.setCell ⟨w.heap.size + 3, 2, none⟩ (.int .i64 2)).heap.size = w.heap.size + 4 := by rw [World.size_setCell, HZ3.out]
  generalize w3.setCell ⟨w.heap.size + 3, 2, none⟩ (.int .i64 2) = w4 at *
  have HM4 : Hid (∀ CI : Array Value, Mem5 (w4.alloc (.cells CI 49)) w.heap.size (rtC (some ⟨w.heap.size + 1, 0, none⟩) 1 none 0 none 0 (twoR 1 p78 0 (-1) 100 0)) (rtC (some ⟨w.heap.size + 1, 0, none⟩) 1 none 0 none 0 (twoR 2 p78 0 (-1) 100 0)) CI ∧ Below w.heap.size w (w4.alloc (.cells CI 49))) := fun CI => by
    have hb : Below w4.heap.size w4 (w4.alloc (.cells CI 49)) := (Below.refl _ _).alloc (Nat.le_refl _) _
    refine ⟨⟨(hb.block _ (by omega)).trans h40, (hb.block _ (by omega)).trans h41, bx4.below hb, by4.below hb, ?_⟩, HB4.out.trans (hb.mono HB4.out.size)⟩
    have := heap_alloc_new w4 (.cells CI 49)
    rw [hz4] at this
    exact this
  have HZ4 := hide hz4
  clear bx4 by4 h40 h41 hz4 h30 h31 HX3 HY3 HB3 HZ3 HB4
  by_cases hz0 : zw % 7 = 0
  · have hq : Int.tmod (zw : Int) 7 = 0 := by rw [Int.tmod_eq_emod_of_nonneg (by omega)]; omega
    have wia : IntKind.i64.wrap (za : Int) = (za : Int) := by rw [IntKind.wrap_i64]; omega
    have wib : IntKind.i64.wrap (zb : Int) = (zb : Int) := by rw [IntKind.wrap_i64]; omega
    have HD := hide (duel (px := p78) (py := p78) rfl rfl has78 has78 0 0 (-1) (-1) (za : Int) (zb : Int) 0 0 2 2 5 5 2 (by omega) (fun s hs hn => by
      match s, hs, hn with
      | 0, _, _ => rfl
      | 1, _, _ => rfl
      | 2, _, hn => exact absurd rfl hn
      | 3, _, _ => rfl
      | 4, _, _ => rfl
      | 5, _, _ => rfl
      | 6, _, _ => rfl
      | 7, _, _ => rfl
      | k + 8, hs, _ => exact absurd hs (by omega)) (decide (zb ≤ za)) (by simp only [scX]; rw [if_neg (by omega), if_neg (by omega)]; exact decide_eq_decide.2 (by omega)))
    obtain ⟨hm5, hb5⟩ := HM4.out #[.int .i64 1, .int .i64 2, .int .u32 5, .int .i64 2, .int .i64 2, .int .u32 5]
    have HM5 := hide hm5
    have HB5 := hide hb5
    clear hm5 hb5 HM4
    go_wp2_with fail
    rw [HZ4.out]
    have hz5 : (w4.alloc (.cells #[.int .i64 1, .int .i64 2, .int .u32 5, .int .i64 2, .int .i64 2, .int .u32 5] 49)).heap.size = w.heap.size + 4 + 1 := by rw [World.size_alloc, HZ4.out]
    generalize w4.alloc (.cells #[.int .i64 1, .int .i64 2, .int .u32 5, .int .i64 2, .int .i64 2, .int .u32 5] 49) = w5 at *
    have HZ5 := hide hz5
    clear hz5
    refine kept_store_intro _ _ _ _ (by rfl) (by rfl) (run_stI (HM5.out.bx.cell 7 rfl) (HM5.out.bx.frozen 7)) ?_
    have HM6 := hide (HM5.out.setX 7 (.int .i64 (za : Int)))
    have HB6 : Hid (Below w.heap.size w (w5.setCell ⟨w.heap.size + 2, 7, none⟩ (.int .i64 (za : Int)))) := HB5.out.setCell (by simp only; omega) _
    generalize w5.setCell ⟨w.heap.size + 2, 7, none⟩ (.int .i64 (za : Int)) = w6 at *
    clear HM5 HB5
    go_wp2_with fail
    refine kept_store_intro _ _ _ _ (by rfl) (by rfl) (run_stI (HM6.out.bY.cell 7 rfl) (HM6.out.bY.frozen 7)) ?_
    have HM7 := hide (HM6.out.setY 7 (.int .i64 (zb : Int)))
    have HB7 : Hid (Below w.heap.size w (w6.setCell ⟨w.heap.size + 3, 7, none⟩ (.int .i64 (zb : Int)))) := HB6.out.setCell (by simp only; omega) _
    generalize w6.setCell ⟨w.heap.size + 3, 7, none⟩ (.int .i64 (zb : Int)) = w7 at *
    clear HM6 HB6
    have HPX : Hid (PthRd w7 (some ⟨w.heap.size + 1, 0, none⟩) p78) := HM7.out.pth
    have HPY := HPX
    have HMF : Hid (Mem5 w7 w.heap.size (rtC (some ⟨w.heap.size + 1, 0, none⟩) 1 none 0 none 0 (twoR 1 p78 0 (-1) (za : Int) 0)) (rtC (some ⟨w.heap.size + 1, 0, none⟩) 1 none 0 none 0 (twoR 2 p78 0 (-1) (zb : Int) 0)) #[.int .i64 1, .int .i64 2, .int .u32 5, .int .i64 2, .int .i64 2, .int .u32 5]) := HM7.out
    clear HM7
    have HI7 := hide HMF.out.bi
    have HX7 := hide HMF.out.bx
    have HY7 := hide HMF.out.bY
    have FX : Hid (FineR (twoR 1 p78 0 (-1) (za : Int) 0)) := fine_twoR (by decide) (by unfold inF; omega) (by unfold inF; omega) (by unfold inF; omega) (by unfold inF; omega)
    have FY : Hid (FineR (twoR 2 p78 0 (-1) (zb : Int) 0)) := fine_twoR (by decide) (by unfold inF; omega) (by unfold inF; omega) (by unfold inF; omega) (by unfold inF; omega)
    clear HMF
    by_cases hcc : zb ≤ za
    · have hdd : decide (zb ≤ za) = true := decide_eq_true hcc
      have hD := HD.out
      rw [hdd] at hD
      have hD1 : _ = some 0 := hD.1
      have hD2 : _ = some 1 := hD.2
      have K1 := hide (best_pair (n := 0) (d1 := 5) (d2 := 5) (pc := 1) (pc2 := 1) HI7.out (at_twoR HPX.out _ _ _ _ _) (at_twoR HPY.out _ _ _ _ _) FX.out FY.out (by omega) (by omega) hD1)
      have K2 : Hid (∀ W, Below w7.heap.size w7 W → _) := fun W hW => best_pair (w := W) (n := 1) (d1 := 5) (d2 := 5) (pc := 1) (pc2 := 1) ((hW.block _ (Array.getElem?_eq_some_iff.1 HI7.out).1).trans HI7.out) (at_twoR (HPY.out.below hW) _ _ _ _ _) (at_twoR (HPX.out.below hW) _ _ _ _ _) FY.out FX.out (by omega) (by omega) hD2
      clear hD hD1 hD2 HD
      have g1 : (zb : Int) ≤ (za : Int) := by omega
      go_wp2_with fail
      refine kept_load_intro _ _ _ (by rfl) (run_loadR HX7.out (RC.rt _ _ _ _ _ _ _)) ?_
      go_wp2_with fail
      refine kept_load_intro _ _ _ (by rfl) (run_loadR HY7.out (RC.rt _ _ _ _ _ _ _)) ?_
      go_wp2_with fail
      refine kept_two_intro _ _ _ _ _ _ _ _ (by rfl) (by rfl) (run_pair _ _ _ _ _ _ _ _ _ _ _ _ _ _ _) ?_
      go_wp2_with fail
      refine K1.out.mono ?_
      rintro e w8 ⟨rfl, b8⟩
      have b78 : Below w7.heap.size w7 w8 := ((Below.refl _ _).alloc (Nat.le_refl _) _).trans (b8.mono (by omega))
      have HB8 : Hid (Below w.heap.size w w8) := HB7.out.trans (b78.mono HB7.out.size)
      have HX8 := hide (HX7.out.below b78)
      have HY8 := hide (HY7.out.below b78)
      have K3 := hide (K2.out w8 b78)
      clear b8 b78 K1 K2
      go_wp2_with fail
      refine kept_load_intro _ _ _ (by rfl) (run_loadR HY8.out (RC.rt _ _ _ _ _ _ _)) ?_
      go_wp2_with fail
      refine kept_load_intro _ _ _ (by rfl) (run_loadR HX8.out (RC.rt _ _ _ _ _ _ _)) ?_
      go_wp2_with fail
      refine kept_two_intro _ _ _ _ _ _ _ _ (by rfl) (by rfl) (run_pair _ _ _ _ _ _ _ _ _ _ _ _ _ _ _) ?_
      go_wp2_with fail
      refine K3.out.mono ?_
      rintro e w9 ⟨rfl, b9⟩
      have HB9 : Hid (Below w.heap.size w w9) := HB8.out.trans ((((Below.refl _ _).alloc (Nat.le_refl _) _).trans (b9.mono (by omega))).mono HB8.out.size)
      clear b9 K3
      go_wp2_with fail
      refine (KA.out _).mono ?_
      rintro e w10 ⟨rfl, b10⟩
      have HB10 : Hid (Below w.heap.size w w10) := HB9.out.trans (b10.mono HB9.out.size)
      clear b10
      go_wp2
      go_ret
      exact ⟨rfl, HB10.out⟩
    · have hdd : decide (zb ≤ za) = false := decide_eq_false hcc
      have hD := HD.out
      rw [hdd] at hD
      have hD1 : _ = some 1 := hD.1
      have hD2 : _ = some 0 := hD.2
      have K1 := hide (best_pair (n := 1) (d1 := 5) (d2 := 5) (pc := 1) (pc2 := 1) HI7.out (at_twoR HPX.out _ _ _ _ _) (at_twoR HPY.out _ _ _ _ _) FX.out FY.out (by omega) (by omega) hD1)
      have K2 : Hid (∀ W, Below w7.heap.size w7 W → _) := fun W hW => best_pair (w := W) (n := 0) (d1 := 5) (d2 := 5) (pc := 1) (pc2 := 1) ((hW.block _ (Array.getElem?_eq_some_iff.1 HI7.out).1).trans HI7.out) (at_twoR (HPY.out.below hW) _ _ _ _ _) (at_twoR (HPX.out.below hW) _ _ _ _ _) FY.out FX.out (by omega) (by omega) hD2
      clear hD hD1 hD2 HD
      have g1 : decide ((zb : Int) ≤ (za : Int)) = false := decide_eq_false (by omega)
      have g2 : decide (zb ≤ za) = false := decide_eq_false hcc
      go_wp2_with fail
      refine kept_load_intro _ _ _ (by rfl) (run_loadR HX7.out (RC.rt _ _ _ _ _ _ _)) ?_
      go_wp2_with fail
      refine kept_load_intro _ _ _ (by rfl) (run_loadR HY7.out (RC.rt _ _ _ _ _ _ _)) ?_
      go_wp2_with fail
      refine kept_two_intro _ _ _ _ _ _ _ _ (by rfl) (by rfl) (run_pair _ _ _ _ _ _ _ _ _ _ _ _ _ _ _) ?_
      go_wp2_with fail
      refine K1.out.mono ?_
      rintro e w8 ⟨rfl, b8⟩
      have b78 : Below w7.heap.size w7 w8 := ((Below.refl _ _).alloc (Nat.le_refl _) _).trans (b8.mono (by omega))
      have HB8 : Hid (Below w.heap.size w w8) := HB7.out.trans (b78.mono HB7.out.size)
      have HX8 := hide (HX7.out.below b78)
      have HY8 := hide (HY7.out.below b78)
      have K3 := hide (K2.out w8 b78)
      clear b8 b78 K1 K2
      go_wp2_with fail
      refine kept_load_intro _ _ _ (by rfl) (run_loadR HY8.out (RC.rt _ _ _ _ _ _ _)) ?_
      go_wp2_with fail
      refine kept_load_intro _ _ _ (by rfl) (run_loadR HX8.out (RC.rt _ _ _ _ _ _ _)) ?_
      go_wp2_with fail
      refine kept_two_intro _ _ _ _ _ _ _ _ (by rfl) (by rfl) (run_pair _ _ _ _ _ _ _ _ _ _ _ _ _ _ _) ?_
      go_wp2_with fail
      refine K3.out.mono ?_
      rintro e w9 ⟨rfl, b9⟩
      have HB9 : Hid (Below w.heap.size w w9) := HB8.out.trans ((((Below.refl _ _).alloc (Nat.le_refl _) _).trans (b9.mono (by omega))).mono HB8.out.size)
      clear b9 K3
      go_wp2_with fail
      refine (KA.out _).mono ?_
      rintro e w10 ⟨rfl, b10⟩
      have HB10 : Hid (Below w.heap.size w w10) := HB9.out.trans (b10.mono HB9.out.size)
      clear b10
      go_wp2
      go_ret
      exact ⟨rfl, HB10.out⟩
  by_cases hz1 : zw % 7 = 1
  · have hq : Int.tmod (zw : Int) 7 = 1 := by rw [Int.tmod_eq_emod_of_nonneg (by omega)]; omega
    obtain ⟨ra, hra⟩ : ∃ ra, ra = za % 9 := ⟨_, rfl⟩
    have hra9 : ra < 9 := by omega
    have hta : Int.tmod (za : Int) 9 = (ra : Int) := by rw [Int.tmod_eq_emod_of_nonneg (by omega)]; omega
    have wua : IntKind.u16.wrap (ra : Int) = (ra : Int) := by rw [wrap_u16]; omega
    have wia : IntKind.i64.wrap (ra : Int) = (ra : Int) := by rw [IntKind.wrap_i64]; omega
    have HRa := hide hra
    clear hra
    obtain ⟨rb, hrb⟩ : ∃ rb, rb = zb % 9 := ⟨_, rfl⟩
    have hrb9 : rb < 9 := by omega
    have htb : Int.tmod (zb : Int) 9 = (rb : Int) := by rw [Int.tmod_eq_emod_of_nonneg (by omega)]; omega
    have wub : IntKind.u16.wrap (rb : Int) = (rb : Int) := by rw [wrap_u16]; omega
    have wib : IntKind.i64.wrap (rb : Int) = (rb : Int) := by rw [IntKind.wrap_i64]; omega
    have HRb := hide hrb
    clear hrb
    have HD := hide (duel (px := (p7z ra)) (py := (p7z rb)) rfl rfl (has7z ra) (has7z rb) 0 0 (-1) (-1) 100 100 0 0 2 2 5 5 3 (by omega) (fun s hs hn => by
      match s, hs, hn with
      | 0, _, _ => rfl
      | 1, _, _ => rfl
      | 2, _, _ => rfl
      | 3, _, hn => exact absurd rfl hn
      | 4, _, _ => rfl
      | 5, _, _ => rfl
      | 6, _, _ => rfl
      | 7, _, _ => rfl
      | k + 8, hs, _ => exact absurd hs (by omega)) (decide (ra ≤ rb)) (by simp only [scX, len7z]; exact decide_eq_decide.2 (by omega)))
    obtain ⟨hm5, hb5⟩ := HM4.out #[.int .i64 1, .int .i64 2, .int .u32 5, .int .i64 2, .int .i64 2, .int .u32 5]
    have HM5 := hide hm5
    have HB5 := hide hb5
    clear hm5 hb5 HM4
    go_wp2_with fail
    rw [HZ4.out]
    have hz5 : (w4.alloc (.cells #[.int .i64 1, .int .i64 2, .int .u32 5, .int .i64 2, .int .i64 2, .int .u32 5] 49)).heap.size = w.heap.size + 4 + 1 := by rw [World.size_alloc, HZ4.out]
    generalize w4.alloc (.cells #[.int .i64 1, .int .i64 2, .int .u32 5, .int .i64 2, .int .i64 2, .int .u32 5] 49) = w5 at *
    have HZ5 := hide hz5
    clear hz5
    obtain ⟨ga, ca, Wa, hra, hba, hga, hca⟩ := run_app_zeros w5 ra hra9
    rw [HZ5.out] at hra
    refine keptZ_intro _ _ _ _ _ (by rfl) (by rfl) hra ?_
    have HBWa : Hid (Below w5.heap.size w5 Wa) := hba
    have HCa := hide hca
    have HGGa := hide hga
    clear hra hba hca hga
    go_wp2_with fail
    have HBVa : Hid (Below w5.heap.size w5 (Wa.alloc (.cells #[.bool false, .slice (some ⟨ga, 0, none⟩) (ra + 1) ca] 47))) := HBWa.out.alloc HBWa.out.size _
    have HPa : Hid (P7 (Wa.alloc (.cells #[.bool false, .slice (some ⟨ga, 0, none⟩) (ra + 1) ca] 47)) ga Wa.heap.size ra ca) := ⟨fun j z hj => by
      have h := HCa.out j z hj
      rw [World.cell?_alloc_lt _ _ _ (by have := World.block_lt_of_cell? _ _ h; exact this)]
      exact h, heap_alloc_new _ _⟩
    have HNBa : Hid (w5.heap.size ≤ Wa.heap.size) := HBWa.out.size
    have HLTa : Hid (w.heap.size + 4 < w5.heap.size) := HM5.out.lt
    have HMVa := hide (HM5.out.below HBVa.out)
    generalize Wa.alloc (.cells #[.bool false, .slice (some ⟨ga, 0, none⟩) (ra + 1) ca] 47) = Va at *
    refine kept_store_intro _ _ _ _ (by rfl) (by rfl) (run_stS (HMVa.out.bx.cell 4 rfl) (HMVa.out.bx.frozen 4)) ?_
    have HM6 := hide (HMVa.out.setX 4 (.slice (some ⟨Wa.heap.size, 0, none⟩) 1 1))
    have HB6 : Hid (Below w.heap.size w (Va.setCell ⟨w.heap.size + 2, 4, none⟩ (.slice (some ⟨Wa.heap.size, 0, none⟩) 1 1))) := (HB5.out.trans (HBVa.out.mono HB5.out.size)).setCell (by simp only; omega) _
    have HPa6 := hide (HPa.out.set (b := w.heap.size + 2) (o := 4) (v := .slice (some ⟨Wa.heap.size, 0, none⟩) 1 1) (by have := HLTa.out; have := HGGa.out; omega) (by have := HLTa.out; have := HNBa.out; omega))
    generalize Va.setCell ⟨w.heap.size + 2, 4, none⟩ (.slice (some ⟨Wa.heap.size, 0, none⟩) 1 1) = w6 at *
    clear HMVa HBVa HBWa HCa HM5 HB5 HPa
    go_wp2_with fail
    obtain ⟨gb, cb, Wb, hrb, hbb, hgb, hcb⟩ := run_app_zeros w6 rb hrb9
    refine keptZ_intro _ _ _ _ _ (by rfl) (by rfl) hrb ?_
    have HBWb : Hid (Below w6.heap.size w6 Wb) := hbb
    have HCb := hide hcb
    have HGGb := hide hgb
    clear hrb hbb hcb hgb
    go_wp2_with fail
    have HBVb : Hid (Below w6.heap.size w6 (Wb.alloc (.cells #[.bool false, .slice (some ⟨gb, 0, none⟩) (rb + 1) cb] 47))) := HBWb.out.alloc HBWb.out.size _
    have HPb : Hid (P7 (Wb.alloc (.cells #[.bool false, .slice (some ⟨gb, 0, none⟩) (rb + 1) cb] 47)) gb Wb.heap.size rb cb) := ⟨fun j z hj => by
      have h := HCb.out j z hj
      rw [World.cell?_alloc_lt _ _ _ (by have := World.block_lt_of_cell? _ _ h; exact this)]
      exact h, heap_alloc_new _ _⟩
    have HNBb : Hid (w6.heap.size ≤ Wb.heap.size) := HBWb.out.size
    have HLTb : Hid (w.heap.size + 4 < w6.heap.size) := HM6.out.lt
    have HMVb := hide (HM6.out.below HBVb.out)
    have HPa7 := hide (HPa6.out.below HBVb.out)
    generalize Wb.alloc (.cells #[.bool false, .slice (some ⟨gb, 0, none⟩) (rb + 1) cb] 47) = Vb at *
    refine kept_store_intro _ _ _ _ (by rfl) (by rfl) (run_stS (HMVb.out.bY.cell 4 rfl) (HMVb.out.bY.frozen 4)) ?_
    have HM7 := hide (HMVb.out.setY 4 (.slice (some ⟨Wb.heap.size, 0, none⟩) 1 1))
    have HB7 : Hid (Below w.heap.size w (Vb.setCell ⟨w.heap.size + 3, 4, none⟩ (.slice (some ⟨Wb.heap.size, 0, none⟩) 1 1))) := (HB6.out.trans (HBVb.out.mono HB6.out.size)).setCell (by simp only; omega) _
    have HPb7 := hide (HPb.out.set (b := w.heap.size + 3) (o := 4) (v := .slice (some ⟨Wb.heap.size, 0, none⟩) 1 1) (by have := HLTb.out; have := HGGb.out; omega) (by have := HLTb.out; have := HNBb.out; omega))
    have HPa8 := hide (HPa7.out.set (b := w.heap.size + 3) (o := 4) (v := .slice (some ⟨Wb.heap.size, 0, none⟩) 1 1) (by have := HLTa.out; have := HGGa.out; omega) (by have := HLTa.out; have := HNBa.out; omega))
    generalize Vb.setCell ⟨w.heap.size + 3, 4, none⟩ (.slice (some ⟨Wb.heap.size, 0, none⟩) 1 1) = w7 at *
    clear HMVb HBVb HBWb HCb HM6 HB6 HPb
    have HPX : Hid (PthRd w7 (some ⟨Wa.heap.size, 0, none⟩) (p7z ra)) := HPa8.out.pth hra9
    have HPY : Hid (PthRd w7 (some ⟨Wb.heap.size, 0, none⟩) (p7z rb)) := HPb7.out.pth hrb9
    clear HPa6 HPa7 HPa8 HPb7 HLTa HLTb HNBa HNBb HGGa HGGb
    have HMF : Hid (Mem5 w7 w.heap.size (rtC (some ⟨Wa.heap.size, 0, none⟩) 1 none 0 none 0 (twoR 1 (p7z ra) 0 (-1) 100 0)) (rtC (some ⟨Wb.heap.size, 0, none⟩) 1 none 0 none 0 (twoR 2 (p7z rb) 0 (-1) 100 0)) #[.int .i64 1, .int .i64 2, .int .u32 5, .int .i64 2, .int .i64 2, .int .u32 5]) := HM7.out
    clear HM7
    have HI7 := hide HMF.out.bi
    have HX7 := hide HMF.out.bx
    have HY7 := hide HMF.out.bY
    have FX : Hid (FineR (twoR 1 (p7z ra) 0 (-1) 100 0)) := fine_twoR (by simp [p7z, sumP]; omega) (by unfold inF; omega) (by unfold inF; omega) (by unfold inF; omega) (by unfold inF; omega)
    have FY : Hid (FineR (twoR 2 (p7z rb) 0 (-1) 100 0)) := fine_twoR (by simp [p7z, sumP]; omega) (by unfold inF; omega) (by unfold inF; omega) (by unfold inF; omega) (by unfold inF; omega)
    clear HMF
    by_cases hcc : ra ≤ rb
    · have hdd : decide (ra ≤ rb) = true := decide_eq_true hcc
      have hD := HD.out
      rw [hdd] at hD
      have hD1 : _ = some 0 := hD.1
      have hD2 : _ = some 1 := hD.2
      have K1 := hide (best_pair (n := 0) (d1 := 5) (d2 := 5) (pc := 1) (pc2 := 1) HI7.out (at_twoR HPX.out _ _ _ _ _) (at_twoR HPY.out _ _ _ _ _) FX.out FY.out (by omega) (by omega) hD1)
      have K2 : Hid (∀ W, Below w7.heap.size w7 W → _) := fun W hW => best_pair (w := W) (n := 1) (d1 := 5) (d2 := 5) (pc := 1) (pc2 := 1) ((hW.block _ (Array.getElem?_eq_some_iff.1 HI7.out).1).trans HI7.out) (at_twoR (HPY.out.below hW) _ _ _ _ _) (at_twoR (HPX.out.below hW) _ _ _ _ _) FY.out FX.out (by omega) (by omega) hD2
      clear hD hD1 hD2 HD
      have g1 : (ra : Int) ≤ (rb : Int) := by omega
      go_wp2_with fail
      refine kept_load_intro _ _ _ (by rfl) (run_loadR HX7.out (RC.rt _ _ _ _ _ _ _)) ?_
      go_wp2_with fail
      refine kept_load_intro _ _ _ (by rfl) (run_loadR HY7.out (RC.rt _ _ _ _ _ _ _)) ?_
      go_wp2_with fail
      refine kept_two_intro _ _ _ _ _ _ _ _ (by rfl) (by rfl) (run_pair _ _ _ _ _ _ _ _ _ _ _ _ _ _ _) ?_
      go_wp2_with fail
      refine K1.out.mono ?_
      rintro e w8 ⟨rfl, b8⟩
      have b78 : Below w7.heap.size w7 w8 := ((Below.refl _ _).alloc (Nat.le_refl _) _).trans (b8.mono (by omega))
      have HB8 : Hid (Below w.heap.size w w8) := HB7.out.trans (b78.mono HB7.out.size)
      have HX8 := hide (HX7.out.below b78)
      have HY8 := hide (HY7.out.below b78)
      have K3 := hide (K2.out w8 b78)
      clear b8 b78 K1 K2
      go_wp2_with fail
      refine kept_load_intro _ _ _ (by rfl) (run_loadR HY8.out (RC.rt _ _ _ _ _ _ _)) ?_
      go_wp2_with fail
      refine kept_load_intro _ _ _ (by rfl) (run_loadR HX8.out (RC.rt _ _ _ _ _ _ _)) ?_
      go_wp2_with fail
      refine kept_two_intro _ _ _ _ _ _ _ _ (by rfl) (by rfl) (run_pair _ _ _ _ _ _ _ _ _ _ _ _ _ _ _) ?_
      go_wp2_with fail
      refine K3.out.mono ?_
      rintro e w9 ⟨rfl, b9⟩
      have HB9 : Hid (Below w.heap.size w w9) := HB8.out.trans ((((Below.refl _ _).alloc (Nat.le_refl _) _).trans (b9.mono (by omega))).mono HB8.out.size)
      clear b9 K3
      go_wp2_with fail
      refine (KA.out _).mono ?_
      rintro e w10 ⟨rfl, b10⟩
      have HB10 : Hid (Below w.heap.size w w10) := HB9.out.trans (b10.mono HB9.out.size)
      clear b10
      go_wp2
      go_ret
      exact ⟨rfl, HB10.out⟩
    · have hdd : decide (ra ≤ rb) = false := decide_eq_false hcc
      have hD := HD.out
      rw [hdd] at hD
      have hD1 : _ = some 1 := hD.1
      have hD2 : _ = some 0 := hD.2
      have K1 := hide (best_pair (n := 1) (d1 := 5) (d2 := 5) (pc := 1) (pc2 := 1) HI7.out (at_twoR HPX.out _ _ _ _ _) (at_twoR HPY.out _ _ _ _ _) FX.out FY.out (by omega) (by omega) hD1)
      have K2 : Hid (∀ W, Below w7.heap.size w7 W → _) := fun W hW => best_pair (w := W) (n := 0) (d1 := 5) (d2 := 5) (pc := 1) (pc2 := 1) ((hW.block _ (Array.getElem?_eq_some_iff.1 HI7.out).1).trans HI7.out) (at_twoR (HPY.out.below hW) _ _ _ _ _) (at_twoR (HPX.out.below hW) _ _ _ _ _) FY.out FX.out (by omega) (by omega) hD2
      clear hD hD1 hD2 HD
      have g1 : decide ((ra : Int) ≤ (rb : Int)) = false := decide_eq_false (by omega)
      have g2 : decide (ra ≤ rb) = false := decide_eq_false hcc
      go_wp2_with fail
      refine kept_load_intro _ _ _ (by rfl) (run_loadR HX7.out (RC.rt _ _ _ _ _ _ _)) ?_
      go_wp2_with fail
      refine kept_load_intro _ _ _ (by rfl) (run_loadR HY7.out (RC.rt _ _ _ _ _ _ _)) ?_
      go_wp2_with fail
      refine kept_two_intro _ _ _ _ _ _ _ _ (by rfl) (by rfl) (run_pair _ _ _ _ _ _ _ _ _ _ _ _ _ _ _) ?_
      go_wp2_with fail
      refine K1.out.mono ?_
      rintro e w8 ⟨rfl, b8⟩
      have b78 : Below w7.heap.size w7 w8 := ((Below.refl _ _).alloc (Nat.le_refl _) _).trans (b8.mono (by omega))
      have HB8 : Hid (Below w.heap.size w w8) := HB7.out.trans (b78.mono HB7.out.size)
      have HX8 := hide (HX7.out.below b78)
      have HY8 := hide (HY7.out.below b78)
      have K3 := hide (K2.out w8 b78)
      clear b8 b78 K1 K2
      go_wp2_with fail
      refine kept_load_intro _ _ _ (by rfl) (run_loadR HY8.out (RC.rt _ _ _ _ _ _ _)) ?_
      go_wp2_with fail
      refine kept_load_intro _ _ _ (by rfl) (run_loadR HX8.out (RC.rt _ _ _ _ _ _ _)) ?_
      go_wp2_with fail
      refine kept_two_intro _ _ _ _ _ _ _ _ (by rfl) (by rfl) (run_pair _ _ _ _ _ _ _ _ _ _ _ _ _ _ _) ?_
      go_wp2_with fail
      refine K3.out.mono ?_
      rintro e w9 ⟨rfl, b9⟩
      have HB9 : Hid (Below w.heap.size w w9) := HB8.out.trans ((((Below.refl _ _).alloc (Nat.le_refl _) _).trans (b9.mono (by omega))).mono HB8.out.size)
      clear b9 K3
      go_wp2_with fail
      refine (KA.out _).mono ?_
      rintro e w10 ⟨rfl, b10⟩
      have HB10 : Hid (Below w.heap.size w w10) := HB9.out.trans (b10.mono HB9.out.size)
      clear b10
      go_wp2
      go_ret
      exact ⟨rfl, HB10.out⟩
  by_cases hz2 : zw % 7 = 2
  · have hq : Int.tmod (zw : Int) 7 = 2 := by rw [Int.tmod_eq_emod_of_nonneg (by omega)]; omega
    obtain ⟨ra, hra⟩ : ∃ ra, ra = za % 3 := ⟨_, rfl⟩
    have hra9 : ra < 3 := by omega
    have hta : Int.tmod (za : Int) 3 = (ra : Int) := by rw [Int.tmod_eq_emod_of_nonneg (by omega)]; omega
    have wua : IntKind.u16.wrap (ra : Int) = (ra : Int) := by rw [wrap_u16]; omega
    have wia : IntKind.i64.wrap (ra : Int) = (ra : Int) := by rw [IntKind.wrap_i64]; omega
    have HRa := hide hra
    clear hra
    obtain ⟨rb, hrb⟩ : ∃ rb, rb = zb % 3 := ⟨_, rfl⟩
    have hrb9 : rb < 3 := by omega
    have htb : Int.tmod (zb : Int) 3 = (rb : Int) := by rw [Int.tmod_eq_emod_of_nonneg (by omega)]; omega
    have wub : IntKind.u16.wrap (rb : Int) = (rb : Int) := by rw [wrap_u16]; omega
    have wib : IntKind.i64.wrap (rb : Int) = (rb : Int) := by rw [IntKind.wrap_i64]; omega
    have HRb := hide hrb
    clear hrb
    have HD := hide (duel (px := p78) (py := p78) rfl rfl has78 has78 (ra : Int) (rb : Int) (-1) (-1) 100 100 0 0 2 2 5 5 4 (by omega) (fun s hs hn => by
      match s, hs, hn with
      | 0, _, _ => rfl
      | 1, _, _ => rfl
      | 2, _, _ => rfl
      | 3, _, _ => rfl
      | 4, _, hn => exact absurd rfl hn
      | 5, _, _ => rfl
      | 6, _, _ => rfl
      | 7, _, _ => rfl
      | k + 8, hs, _ => exact absurd hs (by omega)) (decide (ra ≤ rb)) (by simp only [scX]; exact decide_eq_decide.2 (by omega)))
    obtain ⟨hm5, hb5⟩ := HM4.out #[.int .i64 1, .int .i64 2, .int .u32 5, .int .i64 2, .int .i64 2, .int .u32 5]
    have HM5 := hide hm5
    have HB5 := hide hb5
    clear hm5 hb5 HM4
    go_wp2_with fail
    rw [HZ4.out]
    have hz5 : (w4.alloc (.cells #[.int .i64 1, .int .i64 2, .int .u32 5, .int .i64 2, .int .i64 2, .int .u32 5] 49)).heap.size = w.heap.size + 4 + 1 := by rw [World.size_alloc, HZ4.out]
    generalize w4.alloc (.cells #[.int .i64 1, .int .i64 2, .int .u32 5, .int .i64 2, .int .i64 2, .int .u32 5] 49) = w5 at *
    have HZ5 := hide hz5
    clear hz5
    refine kept_store_intro _ _ _ _ (by rfl) (by rfl) (run_stI (HM5.out.bx.cell 3 rfl) (HM5.out.bx.frozen 3)) ?_
    have HM6 := hide (HM5.out.setX 3 (.int .i64 (ra : Int)))
    have HB6 : Hid (Below w.heap.size w (w5.setCell ⟨w.heap.size + 2, 3, none⟩ (.int .i64 (ra : Int)))) := HB5.out.setCell (by simp only; omega) _
    generalize w5.setCell ⟨w.heap.size + 2, 3, none⟩ (.int .i64 (ra : Int)) = w6 at *
    clear HM5 HB5
    go_wp2_with fail
    refine kept_store_intro _ _ _ _ (by rfl) (by rfl) (run_stI (HM6.out.bY.cell 3 rfl) (HM6.out.bY.frozen 3)) ?_
    have HM7 := hide (HM6.out.setY 3 (.int .i64 (rb : Int)))
    have HB7 : Hid (Below w.heap.size w (w6.setCell ⟨w.heap.size + 3, 3, none⟩ (.int .i64 (rb : Int)))) := HB6.out.setCell (by simp only; omega) _
    generalize w6.setCell ⟨w.heap.size + 3, 3, none⟩ (.int .i64 (rb : Int)) = w7 at *
    clear HM6 HB6
    have HPX : Hid (PthRd w7 (some ⟨w.heap.size + 1, 0, none⟩) p78) := HM7.out.pth
    have HPY := HPX
    have HMF : Hid (Mem5 w7 w.heap.size (rtC (some ⟨w.heap.size + 1, 0, none⟩) 1 none 0 none 0 (twoR 1 p78 (ra : Int) (-1) 100 0)) (rtC (some ⟨w.heap.size + 1, 0, none⟩) 1 none 0 none 0 (twoR 2 p78 (rb : Int) (-1) 100 0)) #[.int .i64 1, .int .i64 2, .int .u32 5, .int .i64 2, .int .i64 2, .int .u32 5]) := HM7.out
    clear HM7
    have HI7 := hide HMF.out.bi
    have HX7 := hide HMF.out.bx
    have HY7 := hide HMF.out.bY
    have FX : Hid (FineR (twoR 1 p78 (ra : Int) (-1) 100 0)) := fine_twoR (by decide) (by unfold inF; omega) (by unfold inF; omega) (by unfold inF; omega) (by unfold inF; omega)
    have FY : Hid (FineR (twoR 2 p78 (rb : Int) (-1) 100 0)) := fine_twoR (by decide) (by unfold inF; omega) (by unfold inF; omega) (by unfold inF; omega) (by unfold inF; omega)
    clear HMF
    by_cases hcc : ra ≤ rb
    · have hdd : decide (ra ≤ rb) = true := decide_eq_true hcc
      have hD := HD.out
      rw [hdd] at hD
      have hD1 : _ = some 0 := hD.1
      have hD2 : _ = some 1 := hD.2
      have K1 := hide (best_pair (n := 0) (d1 := 5) (d2 := 5) (pc := 1) (pc2 := 1) HI7.out (at_twoR HPX.out _ _ _ _ _) (at_twoR HPY.out _ _ _ _ _) FX.out FY.out (by omega) (by omega) hD1)
      have K2 : Hid (∀ W, Below w7.heap.size w7 W → _) := fun W hW => best_pair (w := W) (n := 1) (d1 := 5) (d2 := 5) (pc := 1) (pc2 := 1) ((hW.block _ (Array.getElem?_eq_some_iff.1 HI7.out).1).trans HI7.out) (at_twoR (HPY.out.below hW) _ _ _ _ _) (at_twoR (HPX.out.below hW) _ _ _ _ _) FY.out FX.out (by omega) (by omega) hD2
      clear hD hD1 hD2 HD
      have g1 : (ra : Int) ≤ (rb : Int) := by omega
      go_wp2_with fail
      refine kept_load_intro _ _ _ (by rfl) (run_loadR HX7.out (RC.rt _ _ _ _ _ _ _)) ?_
      go_wp2_with fail
      refine kept_load_intro _ _ _ (by rfl) (run_loadR HY7.out (RC.rt _ _ _ _ _ _ _)) ?_
      go_wp2_with fail
      refine kept_two_intro _ _ _ _ _ _ _ _ (by rfl) (by rfl) (run_pair _ _ _ _ _ _ _ _ _ _ _ _ _ _ _) ?_
      go_wp2_with fail
      refine K1.out.mono ?_
      rintro e w8 ⟨rfl, b8⟩
      have b78 : Below w7.heap.size w7 w8 := ((Below.refl _ _).alloc (Nat.le_refl _) _).trans (b8.mono (by omega))
      have HB8 : Hid (Below w.heap.size w w8) := HB7.out.trans (b78.mono HB7.out.size)
      have HX8 := hide (HX7.out.below b78)
      have HY8 := hide (HY7.out.below b78)
      have K3 := hide (K2.out w8 b78)
      clear b8 b78 K1 K2
      go_wp2_with fail
      refine kept_load_intro _ _ _ (by rfl) (run_loadR HY8.out (RC.rt _ _ _ _ _ _ _)) ?_
      go_wp2_with fail
      refine kept_load_intro _ _ _ (by rfl) (run_loadR HX8.out (RC.rt _ _ _ _ _ _ _)) ?_
      go_wp2_with fail
      refine kept_two_intro _ _ _ _ _ _ _ _ (by rfl) (by rfl) (run_pair _ _ _ _ _ _ _ _ _ _ _ _ _ _ _) ?_
      go_wp2_with fail
      refine K3.out.mono ?_
      rintro e w9 ⟨rfl, b9⟩
      have HB9 : Hid (Below w.heap.size w w9) := HB8.out.trans ((((Below.refl _ _).alloc (Nat.le_refl _) _).trans (b9.mono (by omega))).mono HB8.out.size)
      clear b9 K3
      go_wp2_with fail
      refine (KA.out _).mono ?_
      rintro e w10 ⟨rfl, b10⟩
      have HB10 : Hid (Below w.heap.size w w10) := HB9.out.trans (b10.mono HB9.out.size)
      clear b10
      go_wp2
      go_ret
      exact ⟨rfl, HB10.out⟩
    · have hdd : decide (ra ≤ rb) = false := decide_eq_false hcc
      have hD := HD.out
      rw [hdd] at hD
      have hD1 : _ = some 1 := hD.1
      have hD2 : _ = some 0 := hD.2
      have K1 := hide (best_pair (n := 1) (d1 := 5) (d2 := 5) (pc := 1) (pc2 := 1) HI7.out (at_twoR HPX.out _ _ _ _ _) (at_twoR HPY.out _ _ _ _ _) FX.out FY.out (by omega) (by omega) hD1)
      have K2 : Hid (∀ W, Below w7.heap.size w7 W → _) := fun W hW => best_pair (w := W) (n := 0) (d1 := 5) (d2 := 5) (pc := 1) (pc2 := 1) ((hW.block _ (Array.getElem?_eq_some_iff.1 HI7.out).1).trans HI7.out) (at_twoR (HPY.out.below hW) _ _ _ _ _) (at_twoR (HPX.out.below hW) _ _ _ _ _) FY.out FX.out (by omega) (by omega) hD2
      clear hD hD1 hD2 HD
      have g1 : decide ((ra : Int) ≤ (rb : Int)) = false := decide_eq_false (by omega)
      have g2 : decide (ra ≤ rb) = false := decide_eq_false hcc
      go_wp2_with fail
      refine kept_load_intro _ _ _ (by rfl) (run_loadR HX7.out (RC.rt _ _ _ _ _ _ _)) ?_
      go_wp2_with fail
      refine kept_load_intro _ _ _ (by rfl) (run_loadR HY7.out (RC.rt _ _ _ _ _ _ _)) ?_
      go_wp2_with fail
      refine kept_two_intro _ _ _ _ _ _ _ _ (by rfl) (by rfl) (run_pair _ _ _ _ _ _ _ _ _ _ _ _ _ _ _) ?_
      go_wp2_with fail
      refine K1.out.mono ?_
      rintro e w8 ⟨rfl, b8⟩
      have b78 : Below w7.heap.size w7 w8 := ((Below.refl _ _).alloc (Nat.le_refl _) _).trans (b8.mono (by omega))
      have HB8 : Hid (Below w.heap.size w w8) := HB7.out.trans (b78.mono HB7.out.size)
      have HX8 := hide (HX7.out.below b78)
      have HY8 := hide (HY7.out.below b78)
      have K3 := hide (K2.out w8 b78)
      clear b8 b78 K1 K2
      go_wp2_with fail
      refine kept_load_intro _ _ _ (by rfl) (run_loadR HY8.out (RC.rt _ _ _ _ _ _ _)) ?_
      go_wp2_with fail
      refine kept_load_intro _ _ _ (by rfl) (run_loadR HX8.out (RC.rt _ _ _ _ _ _ _)) ?_
      go_wp2_with fail
      refine kept_two_intro _ _ _ _ _ _ _ _ (by rfl) (by rfl) (run_pair _ _ _ _ _ _ _ _ _ _ _ _ _ _ _) ?_
      go_wp2_with fail
      refine K3.out.mono ?_
      rintro e w9 ⟨rfl, b9⟩
      have HB9 : Hid (Below w.heap.size w w9) := HB8.out.trans ((((Below.refl _ _).alloc (Nat.le_refl _) _).trans (b9.mono (by omega))).mono HB8.out.size)
      clear b9 K3
      go_wp2_with fail
      refine (KA.out _).mono ?_
      rintro e w10 ⟨rfl, b10⟩
      have HB10 : Hid (Below w.heap.size w w10) := HB9.out.trans (b10.mono HB9.out.size)
      clear b10
      go_wp2
      go_ret
      exact ⟨rfl, HB10.out⟩
  by_cases hz3 : zw % 7 = 3
  · have hq : Int.tmod (zw : Int) 7 = 3 := by rw [Int.tmod_eq_emod_of_nonneg (by omega)]; omega
    have wia : IntKind.i64.wrap (za : Int) = (za : Int) := by rw [IntKind.wrap_i64]; omega
    have wib : IntKind.i64.wrap (zb : Int) = (zb : Int) := by rw [IntKind.wrap_i64]; omega
    have HD := hide (duel (px := p78) (py := p78) rfl rfl has78 has78 0 0 (za : Int) (zb : Int) 100 100 0 0 2 2 5 5 5 (by omega) (fun s hs hn => by
      match s, hs, hn with
      | 0, _, _ => rfl
      | 1, _, _ => rfl
      | 2, _, _ => rfl
      | 3, _, _ => rfl
      | 4, _, _ => rfl
      | 5, _, hn => exact absurd rfl hn
      | 6, _, _ => rfl
      | 7, _, _ => rfl
      | k + 8, hs, _ => exact absurd hs (by omega)) (decide (za ≤ zb)) (by simp only [scX]; rw [if_neg (show ¬ (zb : Int) < 0 by omega), if_neg (show ¬ (za : Int) < 0 by omega)]; refine decide_eq_decide.2 ?_; split <;> split <;> omega))
    obtain ⟨hm5, hb5⟩ := HM4.out #[.int .i64 1, .int .i64 2, .int .u32 5, .int .i64 2, .int .i64 2, .int .u32 5]
    have HM5 := hide hm5
    have HB5 := hide hb5
    clear hm5 hb5 HM4
    go_wp2_with fail
    rw [HZ4.out]
    have hz5 : (w4.alloc (.cells #[.int .i64 1, .int .i64 2, .int .u32 5, .int .i64 2, .int .i64 2, .int .u32 5] 49)).heap.size = w.heap.size + 4 + 1 := by rw [World.size_alloc, HZ4.out]
    generalize w4.alloc (.cells #[.int .i64 1, .int .i64 2, .int .u32 5, .int .i64 2, .int .i64 2, .int .u32 5] 49) = w5 at *
    have HZ5 := hide hz5
    clear hz5
    refine kept_store_intro _ _ _ _ (by rfl) (by rfl) (run_stI (HM5.out.bx.cell 6 rfl) (HM5.out.bx.frozen 6)) ?_
    have HM6 := hide (HM5.out.setX 6 (.int .i64 (za : Int)))
    have HB6 : Hid (Below w.heap.size w (w5.setCell ⟨w.heap.size + 2, 6, none⟩ (.int .i64 (za : Int)))) := HB5.out.setCell (by simp only; omega) _
    generalize w5.setCell ⟨w.heap.size + 2, 6, none⟩ (.int .i64 (za : Int)) = w6 at *
    clear HM5 HB5
    go_wp2_with fail
    refine kept_store_intro _ _ _ _ (by rfl) (by rfl) (run_stI (HM6.out.bY.cell 6 rfl) (HM6.out.bY.frozen 6)) ?_
    have HM7 := hide (HM6.out.setY 6 (.int .i64 (zb : Int)))
    have HB7 : Hid (Below w.heap.size w (w6.setCell ⟨w.heap.size + 3, 6, none⟩ (.int .i64 (zb : Int)))) := HB6.out.setCell (by simp only; omega) _
    generalize w6.setCell ⟨w.heap.size + 3, 6, none⟩ (.int .i64 (zb : Int)) = w7 at *
    clear HM6 HB6
    have HPX : Hid (PthRd w7 (some ⟨w.heap.size + 1, 0, none⟩) p78) := HM7.out.pth
    have HPY := HPX
    have HMF : Hid (Mem5 w7 w.heap.size (rtC (some ⟨w.heap.size + 1, 0, none⟩) 1 none 0 none 0 (twoR 1 p78 0 (za : Int) 100 0)) (rtC (some ⟨w.heap.size + 1, 0, none⟩) 1 none 0 none 0 (twoR 2 p78 0 (zb : Int) 100 0)) #[.int .i64 1, .int .i64 2, .int .u32 5, .int .i64 2, .int .i64 2, .int .u32 5]) := HM7.out
    clear HM7
    have HI7 := hide HMF.out.bi
    have HX7 := hide HMF.out.bx
    have HY7 := hide HMF.out.bY
    have FX : Hid (FineR (twoR 1 p78 0 (za : Int) 100 0)) := fine_twoR (by decide) (by unfold inF; omega) (by unfold inF; omega) (by unfold inF; omega) (by unfold inF; omega)
    have FY : Hid (FineR (twoR 2 p78 0 (zb : Int) 100 0)) := fine_twoR (by decide) (by unfold inF; omega) (by unfold inF; omega) (by unfold inF; omega) (by unfold inF; omega)
    clear HMF
    by_cases hcc : za ≤ zb
    · have hdd : decide (za ≤ zb) = true := decide_eq_true hcc
      have hD := HD.out
      rw [hdd] at hD
      have hD1 : _ = some 0 := hD.1
      have hD2 : _ = some 1 := hD.2
      have K1 := hide (best_pair (n := 0) (d1 := 5) (d2 := 5) (pc := 1) (pc2 := 1) HI7.out (at_twoR HPX.out _ _ _ _ _) (at_twoR HPY.out _ _ _ _ _) FX.out FY.out (by omega) (by omega) hD1)
      have K2 : Hid (∀ W, Below w7.heap.size w7 W → _) := fun W hW => best_pair (w := W) (n := 1) (d1 := 5) (d2 := 5) (pc := 1) (pc2 := 1) ((hW.block _ (Array.getElem?_eq_some_iff.1 HI7.out).1).trans HI7.out) (at_twoR (HPY.out.below hW) _ _ _ _ _) (at_twoR (HPX.out.below hW) _ _ _ _ _) FY.out FX.out (by omega) (by omega) hD2
      clear hD hD1 hD2 HD
      have g1 : (za : Int) ≤ (zb : Int) := by omega
      go_wp2_with fail
      refine kept_load_intro _ _ _ (by rfl) (run_loadR HX7.out (RC.rt _ _ _ _ _ _ _)) ?_
      go_wp2_with fail
      refine kept_load_intro _ _ _ (by rfl) (run_loadR HY7.out (RC.rt _ _ _ _ _ _ _)) ?_
      go_wp2_with fail
      refine kept_two_intro _ _ _ _ _ _ _ _ (by rfl) (by rfl) (run_pair _ _ _ _ _ _ _ _ _ _ _ _ _ _ _) ?_
      go_wp2_with fail
      refine K1.out.mono ?_
      rintro e w8 ⟨rfl, b8⟩
      have b78 : Below w7.heap.size w7 w8 := ((Below.refl _ _).alloc (Nat.le_refl _) _).trans (b8.mono (by omega))
      have HB8 : Hid (Below w.heap.size w w8) := HB7.out.trans (b78.mono HB7.out.size)
      have HX8 := hide (HX7.out.below b78)
      have HY8 := hide (HY7.out.below b78)
      have K3 := hide (K2.out w8 b78)
      clear b8 b78 K1 K2
      go_wp2_with fail
      refine kept_load_intro _ _ _ (by rfl) (run_loadR HY8.out (RC.rt _ _ _ _ _ _ _)) ?_
      go_wp2_with fail
      refine kept_load_intro _ _ _ (by rfl) (run_loadR HX8.out (RC.rt _ _ _ _ _ _ _)) ?_
      go_wp2_with fail
      refine kept_two_intro _ _ _ _ _ _ _ _ (by rfl) (by rfl) (run_pair _ _ _ _ _ _ _ _ _ _ _ _ _ _ _) ?_
      go_wp2_with fail
      refine K3.out.mono ?_
      rintro e w9 ⟨rfl, b9⟩
      have HB9 : Hid (Below w.heap.size w w9) := HB8.out.trans ((((Below.refl _ _).alloc (Nat.le_refl _) _).trans (b9.mono (by omega))).mono HB8.out.size)
      clear b9 K3
      go_wp2_with fail
      refine (KA.out _).mono ?_
      rintro e w10 ⟨rfl, b10⟩
      have HB10 : Hid (Below w.heap.size w w10) := HB9.out.trans (b10.mono HB9.out.size)
      clear b10
      go_wp2
      go_ret
      exact ⟨rfl, HB10.out⟩
    · have hdd : decide (za ≤ zb) = false := decide_eq_false hcc
      have hD := HD.out
      rw [hdd] at hD
      have hD1 : _ = some 1 := hD.1
      have hD2 : _ = some 0 := hD.2
      have K1 := hide (best_pair (n := 1) (d1 := 5) (d2 := 5) (pc := 1) (pc2 := 1) HI7.out (at_twoR HPX.out _ _ _ _ _) (at_twoR HPY.out _ _ _ _ _) FX.out FY.out (by omega) (by omega) hD1)
      have K2 : Hid (∀ W, Below w7.heap.size w7 W → _) := fun W hW => best_pair (w := W) (n := 0) (d1 := 5) (d2 := 5) (pc := 1) (pc2 := 1) ((hW.block _ (Array.getElem?_eq_some_iff.1 HI7.out).1).trans HI7.out) (at_twoR (HPY.out.below hW) _ _ _ _ _) (at_twoR (HPX.out.below hW) _ _ _ _ _) FY.out FX.out (by omega) (by omega) hD2
      clear hD hD1 hD2 HD
      have g1 : decide ((za : Int) ≤ (zb : Int)) = false := decide_eq_false (by omega)
      have g2 : decide (za ≤ zb) = false := decide_eq_false hcc
      go_wp2_with fail
      refine kept_load_intro _ _ _ (by rfl) (run_loadR HX7.out (RC.rt _ _ _ _ _ _ _)) ?_
      go_wp2_with fail
      refine kept_load_intro _ _ _ (by rfl) (run_loadR HY7.out (RC.rt _ _ _ _ _ _ _)) ?_
      go_wp2_with fail
      refine kept_two_intro _ _ _ _ _ _ _ _ (by rfl) (by rfl) (run_pair _ _ _ _ _ _ _ _ _ _ _ _ _ _ _) ?_
      go_wp2_with fail
      refine K1.out.mono ?_
      rintro e w8 ⟨rfl, b8⟩
      have b78 : Below w7.heap.size w7 w8 := ((Below.refl _ _).alloc (Nat.le_refl _) _).trans (b8.mono (by omega))
      have HB8 : Hid (Below w.heap.size w w8) := HB7.out.trans (b78.mono HB7.out.size)
      have HX8 := hide (HX7.out.below b78)
      have HY8 := hide (HY7.out.below b78)
      have K3 := hide (K2.out w8 b78)
      clear b8 b78 K1 K2
      go_wp2_with fail
      refine kept_load_intro _ _ _ (by rfl) (run_loadR HY8.out (RC.rt _ _ _ _ _ _ _)) ?_
      go_wp2_with fail
      refine kept_load_intro _ _ _ (by rfl) (run_loadR HX8.out (RC.rt _ _ _ _ _ _ _)) ?_
      go_wp2_with fail
      refine kept_two_intro _ _ _ _ _ _ _ _ (by rfl) (by rfl) (run_pair _ _ _ _ _ _ _ _ _ _ _ _ _ _ _) ?_
      go_wp2_with fail
      refine K3.out.mono ?_
      rintro e w9 ⟨rfl, b9⟩
      have HB9 : Hid (Below w.heap.size w w9) := HB8.out.trans ((((Below.refl _ _).alloc (Nat.le_refl _) _).trans (b9.mono (by omega))).mono HB8.out.size)
      clear b9 K3
      go_wp2_with fail
      refine (KA.out _).mono ?_
      rintro e w10 ⟨rfl, b10⟩
      have HB10 : Hid (Below w.heap.size w w10) := HB9.out.trans (b10.mono HB9.out.size)
      clear b10
      go_wp2
      go_ret
      exact ⟨rfl, HB10.out⟩
  by_cases hz4 : zw % 7 = 4
  · have hq : Int.tmod (zw : Int) 7 = 4 := by rw [Int.tmod_eq_emod_of_nonneg (by omega)]; omega
    obtain ⟨ra, hra⟩ : ∃ ra, ra = za % 2 := ⟨_, rfl⟩
    have hra9 : ra < 2 := by omega
    have hta : Int.tmod (za : Int) 2 = (ra : Int) := by rw [Int.tmod_eq_emod_of_nonneg (by omega)]; omega
    have wua : IntKind.u16.wrap (ra : Int) = (ra : Int) := by rw [wrap_u16]; omega
    have wia : IntKind.i64.wrap (ra : Int) = (ra : Int) := by rw [IntKind.wrap_i64]; omega
    have HRa := hide hra
    clear hra
    obtain ⟨rb, hrb⟩ : ∃ rb, rb = zb % 2 := ⟨_, rfl⟩
    have hrb9 : rb < 2 := by omega
    have htb : Int.tmod (zb : Int) 2 = (rb : Int) := by rw [Int.tmod_eq_emod_of_nonneg (by omega)]; omega
    have wub : IntKind.u16.wrap (rb : Int) = (rb : Int) := by rw [wrap_u16]; omega
    have wib : IntKind.i64.wrap (rb : Int) = (rb : Int) := by rw [IntKind.wrap_i64]; omega
    have HRb := hide hrb
    clear hrb
    have HD := hide (duel (px := p78) (py := p78) rfl rfl has78 has78 0 0 (-1) (-1) 100 100 0 0 (1 + (ra : Int)) (1 + (rb : Int)) 5 5 6 (by omega) (fun s hs hn => by
      match s, hs, hn with
      | 0, _, _ => rfl
      | 1, _, _ => rfl
      | 2, _, _ => rfl
      | 3, _, _ => rfl
      | 4, _, _ => rfl
      | 5, _, _ => rfl
      | 6, _, hn => exact absurd rfl hn
      | 7, _, _ => rfl
      | k + 8, hs, _ => exact absurd hs (by omega)) (decide (rb ≤ ra)) (by simp only [scX]; refine decide_eq_decide.2 ?_; split <;> split <;> omega))
    obtain ⟨hm5, hb5⟩ := HM4.out #[.int .i64 1, .int .i64 2, .int .u32 5, .int .i64 2, .int .i64 2, .int .u32 5]
    have HM5 := hide hm5
    have HB5 := hide hb5
    clear hm5 hb5 HM4
    go_wp2_with fail
    rw [HZ4.out]
    have hz5 : (w4.alloc (.cells #[.int .i64 1, .int .i64 2, .int .u32 5, .int .i64 2, .int .i64 2, .int .u32 5] 49)).heap.size = w.heap.size + 4 + 1 := by rw [World.size_alloc, HZ4.out]
    generalize w4.alloc (.cells #[.int .i64 1, .int .i64 2, .int .u32 5, .int .i64 2, .int .i64 2, .int .u32 5] 49) = w5 at *
    have HZ5 := hide hz5
    clear hz5
    refine kept_store_intro _ _ _ _ (by rfl) (by rfl) (run_stI (cell_at HM5.out.bi 1 rfl) (cell_ice HM5.out.bi 1)) ?_
    have HM6 := hide (HM5.out.setI 1 (.int .i64 (1 + (ra : Int))))
    have HB6 : Hid (Below w.heap.size w (w5.setCell ⟨w.heap.size + 4, 1, none⟩ (.int .i64 (1 + (ra : Int))))) := HB5.out.setCell (by simp only; omega) _
    generalize w5.setCell ⟨w.heap.size + 4, 1, none⟩ (.int .i64 (1 + (ra : Int))) = w6 at *
    clear HM5 HB5
    go_wp2_with fail
    refine kept_store_intro _ _ _ _ (by rfl) (by rfl) (run_stI (cell_at HM6.out.bi 4 rfl) (cell_ice HM6.out.bi 4)) ?_
    have HM7 := hide (HM6.out.setI 4 (.int .i64 (1 + (rb : Int))))
    have HB7 : Hid (Below w.heap.size w (w6.setCell ⟨w.heap.size + 4, 4, none⟩ (.int .i64 (1 + (rb : Int))))) := HB6.out.setCell (by simp only; omega) _
    generalize w6.setCell ⟨w.heap.size + 4, 4, none⟩ (.int .i64 (1 + (rb : Int))) = w7 at *
    clear HM6 HB6
    have HPX : Hid (PthRd w7 (some ⟨w.heap.size + 1, 0, none⟩) p78) := HM7.out.pth
    have HPY := HPX
    have HMF : Hid (Mem5 w7 w.heap.size (rtC (some ⟨w.heap.size + 1, 0, none⟩) 1 none 0 none 0 (twoR 1 p78 0 (-1) 100 0)) (rtC (some ⟨w.heap.size + 1, 0, none⟩) 1 none 0 none 0 (twoR 2 p78 0 (-1) 100 0)) #[.int .i64 1, .int .i64 (1 + (ra : Int)), .int .u32 5, .int .i64 2, .int .i64 (1 + (rb : Int)), .int .u32 5]) := HM7.out
    clear HM7
    have HI7 := hide HMF.out.bi
    have HX7 := hide HMF.out.bx
    have HY7 := hide HMF.out.bY
    have FX : Hid (FineR (twoR 1 p78 0 (-1) 100 0)) := fine_twoR (by decide) (by unfold inF; omega) (by unfold inF; omega) (by unfold inF; omega) (by unfold inF; omega)
    have FY : Hid (FineR (twoR 2 p78 0 (-1) 100 0)) := fine_twoR (by decide) (by unfold inF; omega) (by unfold inF; omega) (by unfold inF; omega) (by unfold inF; omega)
    clear HMF
    by_cases hcc : rb ≤ ra
    · have hdd : decide (rb ≤ ra) = true := decide_eq_true hcc
      have hD := HD.out
      rw [hdd] at hD
      have hD1 : _ = some 0 := hD.1
      have hD2 : _ = some 1 := hD.2
      have K1 := hide (best_pair (n := 0) (d1 := 5) (d2 := 5) (pc := 1) (pc2 := 1) HI7.out (at_twoR HPX.out _ _ _ _ _) (at_twoR HPY.out _ _ _ _ _) FX.out FY.out (by omega) (by omega) hD1)
      have K2 : Hid (∀ W, Below w7.heap.size w7 W → _) := fun W hW => best_pair (w := W) (n := 1) (d1 := 5) (d2 := 5) (pc := 1) (pc2 := 1) ((hW.block _ (Array.getElem?_eq_some_iff.1 HI7.out).1).trans HI7.out) (at_twoR (HPY.out.below hW) _ _ _ _ _) (at_twoR (HPX.out.below hW) _ _ _ _ _) FY.out FX.out (by omega) (by omega) hD2
      clear hD hD1 hD2 HD
      have g1 : (rb : Int) ≤ (ra : Int) := by omega
      go_wp2_with fail
      refine kept_load_intro _ _ _ (by rfl) (run_loadR HX7.out (RC.rt _ _ _ _ _ _ _)) ?_
      go_wp2_with fail
      refine kept_load_intro _ _ _ (by rfl) (run_loadR HY7.out (RC.rt _ _ _ _ _ _ _)) ?_
      go_wp2_with fail
      refine kept_two_intro _ _ _ _ _ _ _ _ (by rfl) (by rfl) (run_pair _ _ _ _ _ _ _ _ _ _ _ _ _ _ _) ?_
      go_wp2_with fail
      refine K1.out.mono ?_
      rintro e w8 ⟨rfl, b8⟩
      have b78 : Below w7.heap.size w7 w8 := ((Below.refl _ _).alloc (Nat.le_refl _) _).trans (b8.mono (by omega))
      have HB8 : Hid (Below w.heap.size w w8) := HB7.out.trans (b78.mono HB7.out.size)
      have HX8 := hide (HX7.out.below b78)
      have HY8 := hide (HY7.out.below b78)
      have K3 := hide (K2.out w8 b78)
      clear b8 b78 K1 K2
      go_wp2_with fail
      refine kept_load_intro _ _ _ (by rfl) (run_loadR HY8.out (RC.rt _ _ _ _ _ _ _)) ?_
      go_wp2_with fail
      refine kept_load_intro _ _ _ (by rfl) (run_loadR HX8.out (RC.rt _ _ _ _ _ _ _)) ?_
      go_wp2_with fail
      refine kept_two_intro _ _ _ _ _ _ _ _ (by rfl) (by rfl) (run_pair _ _ _ _ _ _ _ _ _ _ _ _ _ _ _) ?_
      go_wp2_with fail
      refine K3.out.mono ?_
      rintro e w9 ⟨rfl, b9⟩
      have HB9 : Hid (Below w.heap.size w w9) := HB8.out.trans ((((Below.refl _ _).alloc (Nat.le_refl _) _).trans (b9.mono (by omega))).mono HB8.out.size)
      clear b9 K3
      go_wp2_with fail
      refine (KA.out _).mono ?_
      rintro e w10 ⟨rfl, b10⟩
      have HB10 : Hid (Below w.heap.size w w10) := HB9.out.trans (b10.mono HB9.out.size)
      clear b10
      go_wp2
      go_ret
      exact ⟨rfl, HB10.out⟩
    · have hdd : decide (rb ≤ ra) = false := decide_eq_false hcc
      have hD := HD.out
      rw [hdd] at hD
      have hD1 : _ = some 1 := hD.1
      have hD2 : _ = some 0 := hD.2
      have K1 := hide (best_pair (n := 1) (d1 := 5) (d2 := 5) (pc := 1) (pc2 := 1) HI7.out (at_twoR HPX.out _ _ _ _ _) (at_twoR HPY.out _ _ _ _ _) FX.out FY.out (by omega) (by omega) hD1)
      have K2 : Hid (∀ W, Below w7.heap.size w7 W → _) := fun W hW => best_pair (w := W) (n := 0) (d1 := 5) (d2 := 5) (pc := 1) (pc2 := 1) ((hW.block _ (Array.getElem?_eq_some_iff.1 HI7.out).1).trans HI7.out) (at_twoR (HPY.out.below hW) _ _ _ _ _) (at_twoR (HPX.out.below hW) _ _ _ _ _) FY.out FX.out (by omega) (by omega) hD2
      clear hD hD1 hD2 HD
      have g1 : decide ((rb : Int) ≤ (ra : Int)) = false := decide_eq_false (by omega)
      have g2 : decide (rb ≤ ra) = false := decide_eq_false hcc
      go_wp2_with fail
      refine kept_load_intro _ _ _ (by rfl) (run_loadR HX7.out (RC.rt _ _ _ _ _ _ _)) ?_
      go_wp2_with fail
      refine kept_load_intro _ _ _ (by rfl) (run_loadR HY7.out (RC.rt _ _ _ _ _ _ _)) ?_
      go_wp2_with fail
      refine kept_two_intro _ _ _ _ _ _ _ _ (by rfl) (by rfl) (run_pair _ _ _ _ _ _ _ _ _ _ _ _ _ _ _) ?_
      go_wp2_with fail
      refine K1.out.mono ?_
      rintro e w8 ⟨rfl, b8⟩
      have b78 : Below w7.heap.size w7 w8 := ((Below.refl _ _).alloc (Nat.le_refl _) _).trans (b8.mono (by omega))
      have HB8 : Hid (Below w.heap.size w w8) := HB7.out.trans (b78.mono HB7.out.size)
      have HX8 := hide (HX7.out.below b78)
      have HY8 := hide (HY7.out.below b78)
      have K3 := hide (K2.out w8 b78)
      clear b8 b78 K1 K2
      go_wp2_with fail
      refine kept_load_intro _ _ _ (by rfl) (run_loadR HY8.out (RC.rt _ _ _ _ _ _ _)) ?_
      go_wp2_with fail
      refine kept_load_intro _ _ _ (by rfl) (run_loadR HX8.out (RC.rt _ _ _ _ _ _ _)) ?_
      go_wp2_with fail
      refine kept_two_intro _ _ _ _ _ _ _ _ (by rfl) (by rfl) (run_pair _ _ _ _ _ _ _ _ _ _ _ _ _ _ _) ?_
      go_wp2_with fail
      refine K3.out.mono ?_
      rintro e w9 ⟨rfl, b9⟩
      have HB9 : Hid (Below w.heap.size w w9) := HB8.out.trans ((((Below.refl _ _).alloc (Nat.le_refl _) _).trans (b9.mono (by omega))).mono HB8.out.size)
      clear b9 K3
      go_wp2_with fail
      refine (KA.out _).mono ?_
      rintro e w10 ⟨rfl, b10⟩
      have HB10 : Hid (Below w.heap.size w w10) := HB9.out.trans (b10.mono HB9.out.size)
      clear b10
      go_wp2
      go_ret
      exact ⟨rfl, HB10.out⟩
  by_cases hz5 : zw % 7 = 5
  · have hq : Int.tmod (zw : Int) 7 = 5 := by rw [Int.tmod_eq_emod_of_nonneg (by omega)]; omega
    have wia : IntKind.i64.wrap (za : Int) = (za : Int) := by rw [IntKind.wrap_i64]; omega
    have wva : IntKind.u32.wrap (za : Int) = (za : Int) := by rw [wrap_u32]; omega
    have wib : IntKind.i64.wrap (zb : Int) = (zb : Int) := by rw [IntKind.wrap_i64]; omega
    have wvb : IntKind.u32.wrap (zb : Int) = (zb : Int) := by rw [wrap_u32]; omega
    have HD := hide (duel (px := p78) (py := p78) rfl rfl has78 has78 0 0 (-1) (-1) 100 100 0 0 2 2 za zb 7 (by omega) (fun s hs hn => by
      match s, hs, hn with
      | 0, _, _ => rfl
      | 1, _, _ => rfl
      | 2, _, _ => rfl
      | 3, _, _ => rfl
      | 4, _, _ => rfl
      | 5, _, _ => rfl
      | 6, _, _ => rfl
      | 7, _, hn => exact absurd rfl hn
      | k + 8, hs, _ => exact absurd hs (by omega)) (decide (za ≤ zb)) (by simp only [scX]; exact decide_eq_decide.2 (by omega)))
    obtain ⟨hm5, hb5⟩ := HM4.out #[.int .i64 1, .int .i64 2, .int .u32 5, .int .i64 2, .int .i64 2, .int .u32 5]
    have HM5 := hide hm5
    have HB5 := hide hb5
    clear hm5 hb5 HM4
    go_wp2_with fail
    rw [HZ4.out]
    have hz5 : (w4.alloc (.cells #[.int .i64 1, .int .i64 2, .int .u32 5, .int .i64 2, .int .i64 2, .int .u32 5] 49)).heap.size = w.heap.size + 4 + 1 := by rw [World.size_alloc, HZ4.out]
    generalize w4.alloc (.cells #[.int .i64 1, .int .i64 2, .int .u32 5, .int .i64 2, .int .i64 2, .int .u32 5] 49) = w5 at *
    have HZ5 := hide hz5
    clear hz5
    refine kept_store_intro _ _ _ _ (by rfl) (by rfl) (run_stU (cell_at HM5.out.bi 2 rfl) (cell_ice HM5.out.bi 2)) ?_
    have HM6 := hide (HM5.out.setI 2 (.int .u32 (za : Int)))
    have HB6 : Hid (Below w.heap.size w (w5.setCell ⟨w.heap.size + 4, 2, none⟩ (.int .u32 (za : Int)))) := HB5.out.setCell (by simp only; omega) _
    generalize w5.setCell ⟨w.heap.size + 4, 2, none⟩ (.int .u32 (za : Int)) = w6 at *
    clear HM5 HB5
    go_wp2_with fail
    refine kept_store_intro _ _ _ _ (by rfl) (by rfl) (run_stU (cell_at HM6.out.bi 5 rfl) (cell_ice HM6.out.bi 5)) ?_
    have HM7 := hide (HM6.out.setI 5 (.int .u32 (zb : Int)))
    have HB7 : Hid (Below w.heap.size w (w6.setCell ⟨w.heap.size + 4, 5, none⟩ (.int .u32 (zb : Int)))) := HB6.out.setCell (by simp only; omega) _
    generalize w6.setCell ⟨w.heap.size + 4, 5, none⟩ (.int .u32 (zb : Int)) = w7 at *
    clear HM6 HB6
    have HPX : Hid (PthRd w7 (some ⟨w.heap.size + 1, 0, none⟩) p78) := HM7.out.pth
    have HPY := HPX
    have HMF : Hid (Mem5 w7 w.heap.size (rtC (some ⟨w.heap.size + 1, 0, none⟩) 1 none 0 none 0 (twoR 1 p78 0 (-1) 100 0)) (rtC (some ⟨w.heap.size + 1, 0, none⟩) 1 none 0 none 0 (twoR 2 p78 0 (-1) 100 0)) #[.int .i64 1, .int .i64 2, .int .u32 (za : Int), .int .i64 2, .int .i64 2, .int .u32 (zb : Int)]) := HM7.out
    clear HM7
    have HI7 := hide HMF.out.bi
    have HX7 := hide HMF.out.bx
    have HY7 := hide HMF.out.bY
    have FX : Hid (FineR (twoR 1 p78 0 (-1) 100 0)) := fine_twoR (by decide) (by unfold inF; omega) (by unfold inF; omega) (by unfold inF; omega) (by unfold inF; omega)
    have FY : Hid (FineR (twoR 2 p78 0 (-1) 100 0)) := fine_twoR (by decide) (by unfold inF; omega) (by unfold inF; omega) (by unfold inF; omega) (by unfold inF; omega)
    clear HMF
    by_cases hcc : za ≤ zb
    · have hdd : decide (za ≤ zb) = true := decide_eq_true hcc
      have hD := HD.out
      rw [hdd] at hD
      have hD1 : _ = some 0 := hD.1
      have hD2 : _ = some 1 := hD.2
      have K1 := hide (best_pair (n := 0) (d1 := za) (d2 := zb) (pc := 1) (pc2 := 1) HI7.out (at_twoR HPX.out _ _ _ _ _) (at_twoR HPY.out _ _ _ _ _) FX.out FY.out (by omega) (by omega) hD1)
      have K2 : Hid (∀ W, Below w7.heap.size w7 W → _) := fun W hW => best_pair (w := W) (n := 1) (d1 := za) (d2 := zb) (pc := 1) (pc2 := 1) ((hW.block _ (Array.getElem?_eq_some_iff.1 HI7.out).1).trans HI7.out) (at_twoR (HPY.out.below hW) _ _ _ _ _) (at_twoR (HPX.out.below hW) _ _ _ _ _) FY.out FX.out (by omega) (by omega) hD2
      clear hD hD1 hD2 HD
      have g1 : (za : Int) ≤ (zb : Int) := by omega
      go_wp2_with fail
      refine kept_load_intro _ _ _ (by rfl) (run_loadR HX7.out (RC.rt _ _ _ _ _ _ _)) ?_
      go_wp2_with fail
      refine kept_load_intro _ _ _ (by rfl) (run_loadR HY7.out (RC.rt _ _ _ _ _ _ _)) ?_
      go_wp2_with fail
      refine kept_two_intro _ _ _ _ _ _ _ _ (by rfl) (by rfl) (run_pair _ _ _ _ _ _ _ _ _ _ _ _ _ _ _) ?_
      go_wp2_with fail
      refine K1.out.mono ?_
      rintro e w8 ⟨rfl, b8⟩
      have b78 : Below w7.heap.size w7 w8 := ((Below.refl _ _).alloc (Nat.le_refl _) _).trans (b8.mono (by omega))
      have HB8 : Hid (Below w.heap.size w w8) := HB7.out.trans (b78.mono HB7.out.size)
      have HX8 := hide (HX7.out.below b78)
      have HY8 := hide (HY7.out.below b78)
      have K3 := hide (K2.out w8 b78)
      clear b8 b78 K1 K2
      go_wp2_with fail
      refine kept_load_intro _ _ _ (by rfl) (run_loadR HY8.out (RC.rt _ _ _ _ _ _ _)) ?_
      go_wp2_with fail
      refine kept_load_intro _ _ _ (by rfl) (run_loadR HX8.out (RC.rt _ _ _ _ _ _ _)) ?_
      go_wp2_with fail
      refine kept_two_intro _ _ _ _ _ _ _ _ (by rfl) (by rfl) (run_pair _ _ _ _ _ _ _ _ _ _ _ _ _ _ _) ?_
      go_wp2_with fail
      refine K3.out.mono ?_
      rintro e w9 ⟨rfl, b9⟩
      have HB9 : Hid (Below w.heap.size w w9) := HB8.out.trans ((((Below.refl _ _).alloc (Nat.le_refl _) _).trans (b9.mono (by omega))).mono HB8.out.size)
      clear b9 K3
      go_wp2_with fail
      refine (KA.out _).mono ?_
      rintro e w10 ⟨rfl, b10⟩
      have HB10 : Hid (Below w.heap.size w w10) := HB9.out.trans (b10.mono HB9.out.size)
      clear b10
      go_wp2
      go_ret
      exact ⟨rfl, HB10.out⟩
    · have hdd : decide (za ≤ zb) = false := decide_eq_false hcc
      have hD := HD.out
      rw [hdd] at hD
      have hD1 : _ = some 1 := hD.1
      have hD2 : _ = some 0 := hD.2
      have K1 := hide (best_pair (n := 1) (d1 := za) (d2 := zb) (pc := 1) (pc2 := 1) HI7.out (at_twoR HPX.out _ _ _ _ _) (at_twoR HPY.out _ _ _ _ _) FX.out FY.out (by omega) (by omega) hD1)
      have K2 : Hid (∀ W, Below w7.heap.size w7 W → _) := fun W hW => best_pair (w := W) (n := 0) (d1 := za) (d2 := zb) (pc := 1) (pc2 := 1) ((hW.block _ (Array.getElem?_eq_some_iff.1 HI7.out).1).trans HI7.out) (at_twoR (HPY.out.below hW) _ _ _ _ _) (at_twoR (HPX.out.below hW) _ _ _ _ _) FY.out FX.out (by omega) (by omega) hD2
      clear hD hD1 hD2 HD
      have g1 : decide ((za : Int) ≤ (zb : Int)) = false := decide_eq_false (by omega)
      have g2 : decide (za ≤ zb) = false := decide_eq_false hcc
      go_wp2_with fail
      refine kept_load_intro _ _ _ (by rfl) (run_loadR HX7.out (RC.rt _ _ _ _ _ _ _)) ?_
      go_wp2_with fail
      refine kept_load_intro _ _ _ (by rfl) (run_loadR HY7.out (RC.rt _ _ _ _ _ _ _)) ?_
      go_wp2_with fail
      refine kept_two_intro _ _ _ _ _ _ _ _ (by rfl) (by rfl) (run_pair _ _ _ _ _ _ _ _ _ _ _ _ _ _ _) ?_
      go_wp2_with fail
      refine K1.out.mono ?_
      rintro e w8 ⟨rfl, b8⟩
      have b78 : Below w7.heap.size w7 w8 := ((Below.refl _ _).alloc (Nat.le_refl _) _).trans (b8.mono (by omega))
      have HB8 : Hid (Below w.heap.size w w8) := HB7.out.trans (b78.mono HB7.out.size)
      have HX8 := hide (HX7.out.below b78)
      have HY8 := hide (HY7.out.below b78)
      have K3 := hide (K2.out w8 b78)
      clear b8 b78 K1 K2
      go_wp2_with fail
      refine kept_load_intro _ _ _ (by rfl) (run_loadR HY8.out (RC.rt _ _ _ _ _ _ _)) ?_
      go_wp2_with fail
      refine kept_load_intro _ _ _ (by rfl) (run_loadR HX8.out (RC.rt _ _ _ _ _ _ _)) ?_
      go_wp2_with fail
      refine kept_two_intro _ _ _ _ _ _ _ _ (by rfl) (by rfl) (run_pair _ _ _ _ _ _ _ _ _ _ _ _ _ _ _) ?_
      go_wp2_with fail
      refine K3.out.mono ?_
      rintro e w9 ⟨rfl, b9⟩
      have HB9 : Hid (Below w.heap.size w w9) := HB8.out.trans ((((Below.refl _ _).alloc (Nat.le_refl _) _).trans (b9.mono (by omega))).mono HB8.out.size)
      clear b9 K3
      go_wp2_with fail
      refine (KA.out _).mono ?_
      rintro e w10 ⟨rfl, b10⟩
      have HB10 : Hid (Below w.heap.size w w10) := HB9.out.trans (b10.mono HB9.out.size)
      clear b10
      go_wp2
      go_ret
      exact ⟨rfl, HB10.out⟩
  have hz6 : zw % 7 = 6 := by omega
  clear hz0 hz1 hz2 hz3 hz4 hz5
  have hq : Int.tmod (zw : Int) 7 = 6 := by rw [Int.tmod_eq_emod_of_nonneg (by omega)]; omega
  obtain ⟨ra, hra⟩ : ∃ ra, ra = za % 3 := ⟨_, rfl⟩
  have hra9 : ra < 3 := by omega
  have hta : Int.tmod (za : Int) 3 = (ra : Int) := by rw [Int.tmod_eq_emod_of_nonneg (by omega)]; omega
  have wua : IntKind.u16.wrap (ra : Int) = (ra : Int) := by rw [wrap_u16]; omega
  have wia : IntKind.i64.wrap (ra : Int) = (ra : Int) := by rw [IntKind.wrap_i64]; omega
  have HRa := hide hra
  clear hra
  obtain ⟨rb, hrb⟩ : ∃ rb, rb = zb % 3 := ⟨_, rfl⟩
  have hrb9 : rb < 3 := by omega
  have htb : Int.tmod (zb : Int) 3 = (rb : Int) := by rw [Int.tmod_eq_emod_of_nonneg (by omega)]; omega
  have wub : IntKind.u16.wrap (rb : Int) = (rb : Int) := by rw [wrap_u16]; omega
  have wib : IntKind.i64.wrap (rb : Int) = (rb : Int) := by rw [IntKind.wrap_i64]; omega
  have HRb := hide hrb
  clear hrb
  have HD := hide (duel (px := p78) (py := p78) rfl rfl has78 has78 0 0 (-1) (-1) 100 100 (ra : Int) (rb : Int) 2 2 5 5 1 (by omega) (fun s hs hn => by
    match s, hs, hn with
    | 0, _, _ => rfl
    | 1, _, hn => exact absurd rfl hn
    | 2, _, _ => rfl
    | 3, _, _ => rfl
    | 4, _, _ => rfl
    | 5, _, _ => rfl
    | 6, _, _ => rfl
    | 7, _, _ => rfl
    | k + 8, hs, _ => exact absurd hs (by omega)) (decide (¬ ra = 2 ∨ rb = 2)) (by simp only [scX]; refine decide_eq_decide.2 ?_; split <;> split <;> omega))
  obtain ⟨hm5, hb5⟩ := HM4.out #[.int .i64 1, .int .i64 2, .int .u32 5, .int .i64 2, .int .i64 2, .int .u32 5]
  have HM5 := hide hm5
  have HB5 := hide hb5
  clear hm5 hb5 HM4
  go_wp2_with fail
  rw [HZ4.out]
  have hz5 : (w4.alloc (.cells #[.int .i64 1, .int .i64 2, .int .u32 5, .int .i64 2, .int .i64 2, .int .u32 5] 49)).heap.size = w.heap.size + 4 + 1 := by rw [World.size_alloc, HZ4.out]
  generalize w4.alloc (.cells #[.int .i64 1, .int .i64 2, .int .u32 5, .int .i64 2, .int .i64 2, .int .u32 5] 49) = w5 at *
  have HZ5 := hide hz5
  clear hz5
  refine kept_store_intro _ _ _ _ (by rfl) (by rfl) (run_stI (HM5.out.bx.cell 10 rfl) (HM5.out.bx.frozen 10)) ?_
  have HM6 := hide (HM5.out.setX 10 (.int .i64 (ra : Int)))
  have HB6 : Hid (Below w.heap.size w (w5.setCell ⟨w.heap.size + 2, 10, none⟩ (.int .i64 (ra : Int)))) := HB5.out.setCell (by simp only; omega) _
  generalize w5.setCell ⟨w.heap.size + 2, 10, none⟩ (.int .i64 (ra : Int)) = w6 at *
  clear HM5 HB5
  go_wp2_with fail
  refine kept_store_intro _ _ _ _ (by rfl) (by rfl) (run_stI (HM6.out.bY.cell 10 rfl) (HM6.out.bY.frozen 10)) ?_
  have HM7 := hide (HM6.out.setY 10 (.int .i64 (rb : Int)))
  have HB7 : Hid (Below w.heap.size w (w6.setCell ⟨w.heap.size + 3, 10, none⟩ (.int .i64 (rb : Int)))) := HB6.out.setCell (by simp only; omega) _
  generalize w6.setCell ⟨w.heap.size + 3, 10, none⟩ (.int .i64 (rb : Int)) = w7 at *
  clear HM6 HB6
  have HPX : Hid (PthRd w7 (some ⟨w.heap.size + 1, 0, none⟩) p78) := HM7.out.pth
  have HPY := HPX
  have HMF : Hid (Mem5 w7 w.heap.size (rtC (some ⟨w.heap.size + 1, 0, none⟩) 1 none 0 none 0 (twoR 1 p78 0 (-1) 100 (ra : Int))) (rtC (some ⟨w.heap.size + 1, 0, none⟩) 1 none 0 none 0 (twoR 2 p78 0 (-1) 100 (rb : Int))) #[.int .i64 1, .int .i64 2, .int .u32 5, .int .i64 2, .int .i64 2, .int .u32 5]) := HM7.out
  clear HM7
  have HI7 := hide HMF.out.bi
  have HX7 := hide HMF.out.bx
  have HY7 := hide HMF.out.bY
  have FX : Hid (FineR (twoR 1 p78 0 (-1) 100 (ra : Int))) := fine_twoR (by decide) (by unfold inF; omega) (by unfold inF; omega) (by unfold inF; omega) (by unfold inF; omega)
  have FY : Hid (FineR (twoR 2 p78 0 (-1) 100 (rb : Int))) := fine_twoR (by decide) (by unfold inF; omega) (by unfold inF; omega) (by unfold inF; omega) (by unfold inF; omega)
  clear HMF
  by_cases hcc : ¬ ra = 2 ∨ rb = 2
  · have hdd : decide (¬ ra = 2 ∨ rb = 2) = true := decide_eq_true hcc
    have hD := HD.out
    rw [hdd] at hD
    have hD1 : _ = some 0 := hD.1
    have hD2 : _ = some 1 := hD.2
    have K1 := hide (best_pair (n := 0) (d1 := 5) (d2 := 5) (pc := 1) (pc2 := 1) HI7.out (at_twoR HPX.out _ _ _ _ _) (at_twoR HPY.out _ _ _ _ _) FX.out FY.out (by omega) (by omega) hD1)
    have K2 : Hid (∀ W, Below w7.heap.size w7 W → _) := fun W hW => best_pair (w := W) (n := 1) (d1 := 5) (d2 := 5) (pc := 1) (pc2 := 1) ((hW.block _ (Array.getElem?_eq_some_iff.1 HI7.out).1).trans HI7.out) (at_twoR (HPY.out.below hW) _ _ _ _ _) (at_twoR (HPX.out.below hW) _ _ _ _ _) FY.out FX.out (by omega) (by omega) hD2
    clear hD hD1 hD2 HD
    by_cases h2 : ra = 2
    · have era : (ra : Int) = 2 := by omega
      have erb : (rb : Int) = 2 := by omega
      simp only [era, erb] at K1 K2 HX7 HY7 ⊢
      clear era erb
      go_wp2_with fail
      refine kept_load_intro _ _ _ (by rfl) (run_loadR HX7.out (RC.rt _ _ _ _ _ _ _)) ?_
      go_wp2_with fail
      refine kept_load_intro _ _ _ (by rfl) (run_loadR HY7.out (RC.rt _ _ _ _ _ _ _)) ?_
      go_wp2_with fail
      refine kept_two_intro _ _ _ _ _ _ _ _ (by rfl) (by rfl) (run_pair _ _ _ _ _ _ _ _ _ _ _ _ _ _ _) ?_
      go_wp2_with fail
      refine K1.out.mono ?_
      rintro e w8 ⟨rfl, b8⟩
      have b78 : Below w7.heap.size w7 w8 := ((Below.refl _ _).alloc (Nat.le_refl _) _).trans (b8.mono (by omega))
      have HB8 : Hid (Below w.heap.size w w8) := HB7.out.trans (b78.mono HB7.out.size)
      have HX8 := hide (HX7.out.below b78)
      have HY8 := hide (HY7.out.below b78)
      have K3 := hide (K2.out w8 b78)
      clear b8 b78 K1 K2
      go_wp2_with fail
      refine kept_load_intro _ _ _ (by rfl) (run_loadR HY8.out (RC.rt _ _ _ _ _ _ _)) ?_
      go_wp2_with fail
      refine kept_load_intro _ _ _ (by rfl) (run_loadR HX8.out (RC.rt _ _ _ _ _ _ _)) ?_
      go_wp2_with fail
      refine kept_two_intro _ _ _ _ _ _ _ _ (by rfl) (by rfl) (run_pair _ _ _ _ _ _ _ _ _ _ _ _ _ _ _) ?_
      go_wp2_with fail
      refine K3.out.mono ?_
      rintro e w9 ⟨rfl, b9⟩
      have HB9 : Hid (Below w.heap.size w w9) := HB8.out.trans ((((Below.refl _ _).alloc (Nat.le_refl _) _).trans (b9.mono (by omega))).mono HB8.out.size)
      clear b9 K3
      go_wp2_with fail
      refine (KA.out _).mono ?_
      rintro e w10 ⟨rfl, b10⟩
      have HB10 : Hid (Below w.heap.size w w10) := HB9.out.trans (b10.mono HB9.out.size)
      clear b10
      go_wp2
      go_ret
      exact ⟨rfl, HB10.out⟩
    · have era : ¬ (ra : Int) = 2 := by omega
      have pra : ((ra : Int) == 2) = false := by simpa using era
      have nra : ((ra : Int) != 2) = true := by simpa using era
      clear era
      go_wp2_with fail
      refine kept_load_intro _ _ _ (by rfl) (run_loadR HX7.out (RC.rt _ _ _ _ _ _ _)) ?_
      go_wp2_with fail
      refine kept_load_intro _ _ _ (by rfl) (run_loadR HY7.out (RC.rt _ _ _ _ _ _ _)) ?_
      go_wp2_with fail
      refine kept_two_intro _ _ _ _ _ _ _ _ (by rfl) (by rfl) (run_pair _ _ _ _ _ _ _ _ _ _ _ _ _ _ _) ?_
      go_wp2_with fail
      refine K1.out.mono ?_
      rintro e w8 ⟨rfl, b8⟩
      have b78 : Below w7.heap.size w7 w8 := ((Below.refl _ _).alloc (Nat.le_refl _) _).trans (b8.mono (by omega))
      have HB8 : Hid (Below w.heap.size w w8) := HB7.out.trans (b78.mono HB7.out.size)
      have HX8 := hide (HX7.out.below b78)
      have HY8 := hide (HY7.out.below b78)
      have K3 := hide (K2.out w8 b78)
      clear b8 b78 K1 K2
      go_wp2_with fail
      refine kept_load_intro _ _ _ (by rfl) (run_loadR HY8.out (RC.rt _ _ _ _ _ _ _)) ?_
      go_wp2_with fail
      refine kept_load_intro _ _ _ (by rfl) (run_loadR HX8.out (RC.rt _ _ _ _ _ _ _)) ?_
      go_wp2_with fail
      refine kept_two_intro _ _ _ _ _ _ _ _ (by rfl) (by rfl) (run_pair _ _ _ _ _ _ _ _ _ _ _ _ _ _ _) ?_
      go_wp2_with fail
      refine K3.out.mono ?_
      rintro e w9 ⟨rfl, b9⟩
      have HB9 : Hid (Below w.heap.size w w9) := HB8.out.trans ((((Below.refl _ _).alloc (Nat.le_refl _) _).trans (b9.mono (by omega))).mono HB8.out.size)
      clear b9 K3
      go_wp2_with fail
      refine (KA.out _).mono ?_
      rintro e w10 ⟨rfl, b10⟩
      have HB10 : Hid (Below w.heap.size w w10) := HB9.out.trans (b10.mono HB9.out.size)
      clear b10
      go_wp2
      go_ret
      exact ⟨rfl, HB10.out⟩
  · have hdd : decide (¬ ra = 2 ∨ rb = 2) = false := decide_eq_false hcc
    have hD := HD.out
    rw [hdd] at hD
    have hD1 : _ = some 1 := hD.1
    have hD2 : _ = some 0 := hD.2
    have K1 := hide (best_pair (n := 1) (d1 := 5) (d2 := 5) (pc := 1) (pc2 := 1) HI7.out (at_twoR HPX.out _ _ _ _ _) (at_twoR HPY.out _ _ _ _ _) FX.out FY.out (by omega) (by omega) hD1)
    have K2 : Hid (∀ W, Below w7.heap.size w7 W → _) := fun W hW => best_pair (w := W) (n := 0) (d1 := 5) (d2 := 5) (pc := 1) (pc2 := 1) ((hW.block _ (Array.getElem?_eq_some_iff.1 HI7.out).1).trans HI7.out) (at_twoR (HPY.out.below hW) _ _ _ _ _) (at_twoR (HPX.out.below hW) _ _ _ _ _) FY.out FX.out (by omega) (by omega) hD2
    clear hD hD1 hD2 HD
    have era : (ra : Int) = 2 := by omega
    have erb : ¬ (rb : Int) = 2 := by omega
    have prb : ((rb : Int) == 2) = false := by simpa using erb
    have nrb : ((rb : Int) != 2) = true := by simpa using erb
    clear erb
    simp only [era] at K1 K2 HX7 HY7 ⊢
    clear era
    go_wp2_with fail
    refine kept_load_intro _ _ _ (by rfl) (run_loadR HX7.out (RC.rt _ _ _ _ _ _ _)) ?_
    go_wp2_with fail
    refine kept_load_intro _ _ _ (by rfl) (run_loadR HY7.out (RC.rt _ _ _ _ _ _ _)) ?_
    go_wp2_with fail
    refine kept_two_intro _ _ _ _ _ _ _ _ (by rfl) (by rfl) (run_pair _ _ _ _ _ _ _ _ _ _ _ _ _ _ _) ?_
    go_wp2_with fail
    refine K1.out.mono ?_
    rintro e w8 ⟨rfl, b8⟩
    have b78 : Below w7.heap.size w7 w8 := ((Below.refl _ _).alloc (Nat.le_refl _) _).trans (b8.mono (by omega))
    have HB8 : Hid (Below w.heap.size w w8) := HB7.out.trans (b78.mono HB7.out.size)
    have HX8 := hide (HX7.out.below b78)
    have HY8 := hide (HY7.out.below b78)
    have K3 := hide (K2.out w8 b78)
    clear b8 b78 K1 K2
    go_wp2_with fail
    refine kept_load_intro _ _ _ (by rfl) (run_loadR HY8.out (RC.rt _ _ _ _ _ _ _)) ?_
    go_wp2_with fail
    refine kept_load_intro _ _ _ (by rfl) (run_loadR HX8.out (RC.rt _ _ _ _ _ _ _)) ?_
    go_wp2_with fail
    refine kept_two_intro _ _ _ _ _ _ _ _ (by rfl) (by rfl) (run_pair _ _ _ _ _ _ _ _ _ _ _ _ _ _ _) ?_
    go_wp2_with fail
    refine K3.out.mono ?_
    rintro e w9 ⟨rfl, b9⟩
    have HB9 : Hid (Below w.heap.size w w9) := HB8.out.trans ((((Below.refl _ _).alloc (Nat.le_refl _) _).trans (b9.mono (by omega))).mono HB8.out.size)
    clear b9 K3
    go_wp2_with fail
    refine (KA.out _).mono ?_
    rintro e w10 ⟨rfl, b10⟩
    have HB10 : Hid (Below w.heap.size w w10) := HB9.out.trans (b10.mono HB9.out.size)
    clear b10
    go_wp2
    go_ret
    exact ⟨rfl, HB10.out⟩
end
end Go.Proofs.Ytolpaimmmhoiiaa
