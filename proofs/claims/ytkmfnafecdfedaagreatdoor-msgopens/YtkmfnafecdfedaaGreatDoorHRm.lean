/- The document's two; its body of a KEEPALIVE; a region that makes a message's head in any order. -/
import Derived.Test.YtkmfnafecdfedaaGreatDoorMgM
import Derived.Test.YtkmfnafecdfedaaGreatDoorMgE3
import Derived.Test.YtkmfnafecdfedaaGreatDoorStA
import Derived.Test.YtkmfnafecdfedaaGreatDoorHMx
import Derived.Deep.QuietTactic
import Derived.BigQuiet
namespace Go.Proofs.YtkmfnafecdfedaaGreatDoor
open Go.RowKit
set_option maxRecDepth 100000

set_option maxHeartbeats 400000 in
theorem two_any (n : Nat) (w : World) (hn : n < 65536) : Calls Tryz.prog 32 #[.int .i64 (n : Int)] w fun e w' => e = .returned (.slice (some ⟨w.heap.size, 0, none⟩) 2 2) ∧ w' = w.alloc (.cells #[.int .u8 ((n : Int) / 256), .int .u8 ((n : Int) % 256)] 5) := by
  have e1 : IntKind.u8.wrap (Int.tdiv (n : Int) 256) = (n : Int) / 256 := by rw [Int.tdiv_eq_ediv_of_nonneg (by omega), IntKind.wrap_u8]; omega
  have e2 : IntKind.u8.wrap (Int.tmod (n : Int) 256) = (n : Int) % 256 := by rw [Int.tmod_eq_emod_of_nonneg (by omega), IntKind.wrap_u8]; omega
  go_enter Tryz.func32, Tryz.ntmps32
  go_wp2
  go_ret
  first
  | exact ⟨rfl, rfl⟩
  | exact ⟨rfl, by simp [e1, e2]⟩
set_option maxHeartbeats 1600000 in
theorem rbody_alive (w : World) : Calls Tryz.prog 31 #[.agg (msgC 4 0 0 (.slice none 0 0))] w fun e w' => e = .returned (.tuple #[.slice none 0 0, .bool true]) ∧ Below w.heap.size w w' := by
  unfold msgC
  go_enter Tryz.func31, Tryz.ntmps31
  go_wp2_with fail
  go_quiet (fail)
  go_wp2
  go_ret2
  exact ⟨rfl, below_drewN ((Below.refl _ _).alloc (Nat.le_refl _) _) _⟩
section
variable {a : Act} {w w' : World} {dst : Option Tmp} {ty : TypeId} {pos : String} {after : Array Edge} {K : Act → World → Prop} {Q : Exit → Act → World → Prop}
theorem run_two (ρ : Operand → Value) (x : Operand) (u : Value) (hf : ρ (.func 32) = .func (.func 32) #[] #[]) (hx : ρ x = u) :
    (execOp ρ { dst := dst, op := .call { callee := .value (.func 32), args := #[x], argTypes := #[3] }, type := ty, pos := pos, after := after, guard := none }).run Tryz.prog w = .ok (.enter 32 #[u]) w := by
  unfold execOp
  simp [resolve, invoke, hf, hx, go_sem]
theorem call_two (x : Operand) (u : Value) (hx : a.eval x = u) (h : Calls Tryz.prog 32 #[u] w fun e w' => ∃ r, e = .returned r ∧ K (a.put dst r) w') :
    Oper.wp Tryz.prog { dst := dst, op := .call { callee := .value (.func 32), args := #[x], argTypes := #[3] }, type := ty, pos := pos, after := after, guard := none } a w K Q := by
  unfold Oper.wp
  rw [run_two a.eval x u rfl hx]
  refine Calls.mono h ?_
  rintro _ w' ⟨r, rfl, hk⟩
  exact hk
theorem opwp_app {t : TypeId} (x y : Operand) (p q v : Value) (hx : a.eval x = p) (hy : a.eval y = q) (hr : (Builtin.append_ #[t, t] ty #[p, q]).run Tryz.prog w = .ok v w') (h : K (a.put dst v) w') :
    Oper.wp Tryz.prog { dst := dst, op := .call { callee := .builtin .append, args := #[x, y], argTypes := #[t, t] }, type := ty, pos := pos, after := after, guard := none } a w K Q := by
  unfold Oper.wp execOp
  simp only [resolve, invoke, builtin, Sem.run_bind, Sem.run_pure, Result.andThen_ok, List.map_toArray, List.map_cons, List.map_nil, hx, hy, hr]
  exact h
theorem wp_byte1 (x : Nat) (k : Int) (hx : a.tmps[x]? = some (.int .u8 k)) (h : K (a.put dst (.slice (some ⟨w.heap.size, 0, none⟩) 1 1)) (w.alloc (.cells #[.int .u8 k] 5))) : Oper.wp Tryz.prog { dst := dst, op := .buildSlice 22 1 #[(0, .tmp x)], type := ty, pos := pos, after := after, guard := none } a w K Q := by
  have hr : (execOp a.eval { dst := dst, op := .buildSlice 22 1 #[(0, .tmp x)], type := ty, pos := pos, after := after, guard := none }).run Tryz.prog w = .ok (.value (.slice (some ⟨w.heap.size, 0, none⟩) 1 1)) (w.alloc (.cells #[.int .u8 k] 5)) := by
    unfold execOp
    simp [hx, go_sem]
  unfold Oper.wp
  rw [hr]
  exact h
end
theorem grown_below {w w' : World} {B e size n : Nat} {v : Value} {xs : List Value} (ho : w.ownsRow B e size v n xs) (hB : B ≤ w.heap.size) (hg : w.grownBy w' v.ownBlock) : Below B w w' :=
  ((Keeps.refl (fun b => v.ownBlock = some b) w).grown hg (fun _ e => .inl e)).below B hB (fun b e => (own_block ho b e).1)
/-- One byte in a block that is not the row's: it stays where the row grows. -/
theorem brd_grown {w w' : World} {v : Value} {h : Nat} {bs : List Nat} (hb : BRd w (some ⟨h, 0, none⟩) bs) (hg : w.grownBy w' v.ownBlock) (hn : v.ownBlock ≠ some h) (hp : 0 < bs.length) : BRd w' (some ⟨h, 0, none⟩) bs := by
  obtain ⟨b, o, e9, hc⟩ := hb.1.2 hp
  cases e9
  have hz : h < w.heap.size := World.block_lt_of_cell? w _ (hc 0 hp)
  refine ⟨⟨hb.1.1, fun _ => ⟨h, 0, rfl, fun i hi => ?_⟩⟩, hb.2⟩
  rw [World.cell?_of_block (w := w) (hg.block h hz (Ne.symm hn))]
  exact hc i hi
set_option maxHeartbeats 800000 in
/-- 'append(append(out, two(n)...), byte(k))': three orders. -/
theorem head_orders {ops : Array Oper} {Q : Exit → Act → World → Prop} {L0 Lf : Array Bool} {f : Nat} (b : Act) (w0 W0 : World) (B n k : Nat) (v5 : Value) (ys : List Nat) (hn : n < 65536) (hk : k < 256) (hl : ys.length ≤ 1000)
    (ho : W0.ownsRow B 5 1 v5 ys.length (bcells ys)) (hB : B ≤ W0.heap.size) (hW0 : Below B w0 W0)
    (o4 : ∃ ty po af, ops[4]? = some { dst := some 30, op := .call { callee := .value (.func 32), args := #[.tmp 29], argTypes := #[3] }, type := ty, pos := po, after := af, guard := none })
    (o5 : ∃ po af, ops[5]? = some { dst := some 31, op := .call { callee := .builtin .append, args := #[.tmp 26, .tmp 30], argTypes := #[22, 22] }, type := 22, pos := po, after := af, guard := none })
    (o9 : ∃ ty po af, ops[9]? = some { dst := some 35, op := .buildSlice 22 1 #[(0, .tmp 34)], type := ty, pos := po, after := af, guard := none })
    (r0 : Region.ready .any ops L0 = [4, 9]) (r9 : Region.ready .any ops (L0.setIfInBounds 9 true) = [4]) (r94 : Region.ready .any ops ((L0.setIfInBounds 9 true).setIfInBounds 4 true) = [5])
    (r4 : Region.ready .any ops (L0.setIfInBounds 4 true) = [5, 9]) (r49 : Region.ready .any ops ((L0.setIfInBounds 4 true).setIfInBounds 9 true) = [5]) (r45 : Region.ready .any ops ((L0.setIfInBounds 4 true).setIfInBounds 5 true) = [9])
    (eA : ((L0.setIfInBounds 9 true).setIfInBounds 4 true).setIfInBounds 5 true = Lf) (eB : ((L0.setIfInBounds 4 true).setIfInBounds 9 true).setIfInBounds 5 true = Lf) (eC : ((L0.setIfInBounds 4 true).setIfInBounds 5 true).setIfInBounds 9 true = Lf)
    (hsz : b.tmps.size = 40) (s26 : b.tmps[26]? = some v5) (s29 : b.tmps[29]? = some (.int .i64 (n : Int))) (s34 : b.tmps[34]? = some (.int .u8 (k : Int)))
    (fin : ∀ W x v h, Below B w0 W → W.ownsRow B 5 1 v (ys ++ [n / 256, n % 256]).length (bcells (ys ++ [n / 256, n % 256])) → BRd W (some ⟨h, 0, none⟩) [k] → wpAnyH Tryz.prog .any ops Q (fun W => Below B w0 W) f Lf (((b.put (some 30) x).put (some 31) v).put (some 35) (.slice (some ⟨h, 0, none⟩) 1 1)) W) :
    wpAnyH Tryz.prog .any ops Q (fun W => Below B w0 W) (f + 3) L0 b W0 := by
  obtain ⟨t4, p4, f4, h4⟩ := o4
  obtain ⟨p5, f5, h5⟩ := o5
  obtain ⟨t9, p9, f9, h9⟩ := o9
  have nb : ∀ x, W0.heap.size ≤ x → v5.ownBlock ≠ some x := fun x hx e => by have := (own_block ho x e).2; omega
  obtain ⟨T, hT⟩ : ∃ T : Obj, T = .cells #[.int .u8 ((n : Int) / 256), .int .u8 ((n : Int) % 256)] 5 := ⟨_, rfl⟩
  obtain ⟨O, hO⟩ : ∃ O : Obj, O = .cells #[.int .u8 (k : Int)] 5 := ⟨_, rfl⟩
  have bt : ∀ w : World, BRd (w.alloc T) (some ⟨w.heap.size, 0, none⟩) [n / 256, n % 256] := fun w => by rw [hT]; exact brd_two w n hn
  have bo : ∀ w : World, BRd (w.alloc O) (some ⟨w.heap.size, 0, none⟩) [k] := fun w => by rw [hO]; exact brd_one w k hk
  have ct : ∀ w : World, Calls Tryz.prog 32 #[.int .i64 (n : Int)] w fun e w' => e = .returned (.slice (some ⟨w.heap.size, 0, none⟩) 2 2) ∧ w' = w.alloc T := fun w => by rw [hT]; exact two_any n w hn
  have al : ∀ (w : World) (o : Obj), Below w.heap.size w (w.alloc o) := fun w o => (Below.refl _ _).alloc (Nat.le_refl _) _
  refine wpAnyH_all r0 (by simp) fun i hi => ?_
  have hi2 : i = 4 ∨ i = 9 := by simpa using hi
  rcases hi2 with rfl | rfl
  · refine op_plain h4 rfl (call_two _ _ (slot_eval s29) ((ct W0).mono ?_))
    rintro e w' ⟨rfl, rfl⟩
    have b1 : Below B w0 (W0.alloc T) := hW0.alloc hB T
    have B1 : B ≤ (W0.alloc T).heap.size := Nat.le_trans hB (al W0 T).size
    refine ⟨_, rfl, b1, ?_⟩
    refine wpAnyH_all r4 (by simp) fun i hi => ?_
    have hi2 : i = 5 ∨ i = 9 := by simpa using hi
    rcases hi2 with rfl | rfl
    · obtain ⟨v', w', hr, ho', hg', _⟩ := app_grow [n / 256, n % 256] (some ⟨W0.heap.size, 0, none⟩) 2 (ho.alloc T) B1 (by simp; omega) (bt W0)
      have hb' := grown_below (ho.alloc T) B1 hg'
      refine op_plain h5 rfl (opwp_app _ _ _ _ _ (slot_eval (by rw [slot_put _ (by decide)]; exact s26)) (slot_eval (slot_same _ (by rw [hsz]; decide))) hr ?_)
      have b2 := b1.trans hb'
      refine ⟨b2, ?_⟩
      refine wpAnyH_all r45 (by simp) fun i hi => ?_
      obtain rfl : i = 9 := by simpa using hi
      refine op_plain h9 rfl (wp_byte1 34 _ (by rw [slot_put _ (by decide), slot_put _ (by decide)]; exact s34) ?_)
      rw [← hO]
      have b3 := b2.alloc (Nat.le_trans B1 hb'.size) O
      refine ⟨b3, ?_⟩
      rw [eC]
      exact fin _ _ _ _ b3 (ho'.alloc O) (bo w')
    · refine op_plain h9 rfl (wp_byte1 34 _ (by rw [slot_put _ (by decide)]; exact s34) ?_)
      rw [← hO]
      have b2 := b1.alloc B1 O
      have B2 : B ≤ ((W0.alloc T).alloc O).heap.size := Nat.le_trans B1 (al _ O).size
      refine ⟨b2, ?_⟩
      refine wpAnyH_all r49 (by simp) fun i hi => ?_
      obtain rfl : i = 5 := by simpa using hi
      obtain ⟨v', w', hr, ho', hg', _⟩ := app_grow [n / 256, n % 256] (some ⟨W0.heap.size, 0, none⟩) 2 ((ho.alloc T).alloc O) B2 (by simp; omega) ((bt W0).below (al _ O))
      have hb' := grown_below ((ho.alloc T).alloc O) B2 hg'
      refine op_plain h5 rfl (opwp_app _ _ _ _ _ (slot_eval (by rw [slot_put _ (by decide), slot_put _ (by decide)]; exact s26)) (slot_eval (by rw [slot_put _ (by decide)]; exact slot_same _ (by rw [hsz]; decide))) hr ?_)
      have b3 := b2.trans hb'
      refine ⟨b3, ?_⟩
      rw [eB, put_comm (b.put (some 30) _) _ v' (by decide)]
      exact fin _ _ _ _ b3 ho' (brd_grown (bo _) hg' (nb _ (by simp)) (by simp))
  · refine op_plain h9 rfl (wp_byte1 34 _ s34 ?_)
    rw [← hO]
    have b1 := hW0.alloc hB O
    have B1 : B ≤ (W0.alloc O).heap.size := Nat.le_trans hB (al W0 O).size
    refine ⟨b1, ?_⟩
    refine wpAnyH_all r9 (by simp) fun i hi => ?_
    obtain rfl : i = 4 := by simpa using hi
    refine op_plain h4 rfl (call_two _ _ (slot_eval (by rw [slot_put _ (by decide)]; exact s29)) ((ct (W0.alloc O)).mono ?_))
    rintro e w' ⟨rfl, rfl⟩
    have b2 := b1.alloc B1 T
    have B2 : B ≤ ((W0.alloc O).alloc T).heap.size := Nat.le_trans B1 (al _ T).size
    refine ⟨_, rfl, b2, ?_⟩
    refine wpAnyH_all r94 (by simp) fun i hi => ?_
    obtain rfl : i = 5 := by simpa using hi
    obtain ⟨v', w', hr, ho', hg', _⟩ := app_grow [n / 256, n % 256] (some ⟨(W0.alloc O).heap.size, 0, none⟩) 2 ((ho.alloc O).alloc T) B2 (by simp; omega) (bt (W0.alloc O))
    have hb' := grown_below ((ho.alloc O).alloc T) B2 hg'
    refine op_plain h5 rfl (opwp_app _ _ _ _ _ (slot_eval (by rw [slot_put _ (by decide), slot_put _ (by decide)]; exact s26)) (slot_eval (slot_same _ (by simp [Act.put, hsz]))) hr ?_)
    have b3 := b2.trans hb'
    refine ⟨b3, ?_⟩
    rw [eA, put_comm b _ _ (show (35 : Nat) ≠ 30 by decide), put_comm (b.put (some 30) _) _ v' (show (35 : Nat) ≠ 31 by decide)]
    exact fin _ _ _ _ b3 ho' (brd_grown ((bo W0).below (al _ T)) hg' (nb _ (by simp)) (by simp))
end Go.Proofs.YtkmfnafecdfedaaGreatDoor
/- The document's Message, of whatever its body is. -/
namespace Go.Proofs.YtkmfnafecdfedaaGreatDoor
open Go.RowKit
set_option maxRecDepth 100000

theorem ff_snoc (k : Nat) : bcells (List.replicate (k + 1) 255) = bcells (List.replicate k 255) ++ [.int .u8 255] := by
  rw [List.replicate_succ', bcells_app]
  rfl
section
attribute [local go_sem ↓] keptM_load keptM_box
set_option maxHeartbeats 4000000 in
theorem rmsg_any (k : Nat) (C : Array Value) (ys : List Nat) (nb : Nat) (w : World) (hC : MC C) (h0 : C[0]? = some (.int .i64 (k : Int))) (hk : k < 256) (hnb : ys.length = nb) (hy : nb ≤ 4077)
    (KB : ∀ o, Calls Tryz.prog 31 #[.agg C] (w.alloc o) fun e w' => ∃ ab cb, e = .returned (.tuple #[.slice ab nb cb, .bool true]) ∧ BRd w' ab ys ∧ Below (w.alloc o).heap.size (w.alloc o) w') :
    Calls Tryz.prog 11 #[.agg C] w fun e w' => ∃ v, e = .returned v ∧ w'.ownsRow w.heap.size 5 1 v (ff16 ++ [(19 + nb) / 256, (19 + nb) % 256, k] ++ ys).length (bcells (ff16 ++ [(19 + nb) / 256, (19 + nb) % 256, k] ++ ys)) ∧ Below w.heap.size w w' := by
  have HKB := hide KB
  have HC := hide hC
  have HY := hide hnb
  have bx0 : (w.alloc (.cells C 40)).heap[w.heap.size]? = some (.cells C 40 (0, 0)) := heap_alloc_new w _
  have HBX := hide bx0
  have HL := hide (run_loadM (range_of bx0) hC)
  clear hC hnb KB bx0
  have dy : decide ((4077 : Int) < (nb : Int)) = false := decide_eq_false (by omega)
  go_enter Tryz.func11, Tryz.ntmps11
  go_wp2_with (first | (refine keptM_box_intro _ (.agg C) _ (by rfl) (run_boxM C w) ?_) | (refine keptM_load_intro _ _ _ (by rfl) HL.out ?_))
  refine (HKB.out (.cells C 40)).mono ?_
  rintro e w2 ⟨ab, cb, rfl, hbr, hb2⟩
  have HBr := hide hbr
  have HB2 : Hid (Below w.heap.size w w2) := ((Below.refl _ _).alloc (Nat.le_refl _) _).trans (hb2.mono (by simp))
  have hx2 : w2.heap[w.heap.size]? = some (.cells C 40 (0, 0)) := by rw [hb2.block _ (by simp)]; exact HBX.out
  have HX2 := hide hx2
  have hz2 : w.heap.size < w2.heap.size := (Array.getElem?_eq_some_iff.1 hx2).1
  clear hbr hb2 hx2
  go_wp2
  go_loopw [5, 6] (fun v i wq => ∃ (j : Nat) (a : Option Addr) (c : Nat), j ≤ 16 ∧ i = .int .i64 j ∧ v = .slice a j c ∧ Hid (wq.ownsRow w2.heap.size 5 1 (.slice a j c) j (bcells (List.replicate j 255))) ∧ Hid (Below w2.heap.size w2 wq)) (fun _ i _ => 16 - (intOf i).toNat)
  case atStart => exact ⟨0, none, 0, Nat.zero_le _, rfl, rfl, own_nil _ _ _ _, Below.refl _ _⟩
  case round =>
    obtain ⟨j, a, c, hj, rfl, rfl, HO, HB⟩ := hrel
    by_cases hlt : j < 16
    · obtain ⟨v', w', hr, ho, hb⟩ := app_new elemU8 HO.out HB.out.size 1 [.int .u8 255] rfl (by simp [Value.oneCell']) (by omega) wr.heap.size rfl
      rw [← ff_snoc] at ho
      obtain ⟨a', c', rfl⟩ := own_shape ho
      have HR := hide hr
      have HO2 := hide ho
      have HB3 : Hid (Below w2.heap.size w2 w') := HB.out.trans hb
      clear hr ho hb
      go_wp2_with ((with_reducible refine wpl_append _ _ 22 _ (.slice (some ⟨wr.heap.size, 0, none⟩) 1 1) _ ?_ ?_ HR.out ?_); (· rfl); (· rfl))
      exact ⟨⟨j + 1, a', c', by omega, by go_num, rfl, HO2, HB3⟩, by simp [intOf]; omega⟩
    · obtain rfl : j = 16 := by omega
      clear hlt hj
      have hx3 : wr.heap[w.heap.size]? = some (.cells C 40 (0, 0)) := by rw [HB.out.block _ hz2]; exact HX2.out
      have hz3 : w.heap.size < wr.heap.size := (Array.getElem?_eq_some_iff.1 hx3).1
      have hS3 := HB.out.size
      go_wp2_with fail
      have kc : ∀ W, Below w2.heap.size w2 W → W.cell? ⟨w.heap.size, 0, none⟩ = some (.int .i64 (k : Int)) := fun W hW => by
        have hx : W.heap[w.heap.size]? = some (.cells C 40 (0, 0)) := by rw [hW.block _ hz2]; exact HX2.out
        exact range_of hx 0 _ (by rw [Array.getElem?_toList]; exact h0)
      have en : IntKind.i64.wrap (19 + (nb : Int)) = ((19 + nb : Nat) : Int) := by rw [IntKind.wrap_i64]; omega
      have ek : IntKind.u8.wrap (k : Int) = (k : Int) := by rw [IntKind.wrap_u8]; omega
      refine region_pre2 (fun W => Below w2.heap.size w2 W) [0, 1, 2, 3, 6, 7, 8] 5 #[true, true, true, true, false, false, true, true, true, false, false, false] (by kernel_rfl) (by kernel_rfl) (by rfl) (by kernel_rfl) (by rfl) HB.out.drew ?_
      repeat refine pre_q (by rfl) (by rfl) (fun w9 h9 => (by have s0 := kc w9 h9; clear h9; go_simp; first | done | rfl)) (by go_simp; first | done | rfl) ?_
      show wpAnyH _ _ _ _ _ _ _ _ _
      refine head_orders (f := 2) (L0 := #[true, true, true, true, false, false, true, true, true, false, false, false]) (Lf := #[true, true, true, true, true, true, true, true, true, true, false, false]) _ w2 _ w2.heap.size (19 + nb) k (.slice a 16 c) (List.replicate 16 255) (by omega) hk (by simp) (HO.out) HB.out.size HB.out.drew ⟨_, _, _, rfl⟩ ⟨_, _, rfl⟩ ⟨_, _, _, rfl⟩ (by kernel_rfl) (by kernel_rfl) (by kernel_rfl) (by kernel_rfl) (by kernel_rfl) (by kernel_rfl) (by rfl) (by rfl) (by rfl) (by rfl) (by rfl) (by rfl) (by rfl) ?_
      intro W x v h hbW hoW hdW
      obtain ⟨va, vc, rfl⟩ := own_shape hoW
      obtain ⟨v', w', hr, ho', hg', _⟩ := app_grow [k] (some ⟨h, 0, none⟩) 1 hoW hbW.size (by simp) hdW
      have hb' := grown_below hoW hbW.size hg'
      have b5 := hbW.trans hb'
      refine anyH_ord (L := fun k => k == 10) (by kernel_rfl) (fun c a a' w h => absurd rfl (h.1 c)) [10, 11] _ _ _ (by kernel_rfl) hbW ?_
      refine ord_l (by rfl) (by rfl) (by rfl) ?_
      refine opwp_app _ _ _ _ _ (by rfl) (by rfl) hr ?_
      refine ⟨b5, ?_⟩
      repeat refine ord_q (by rfl) (by rfl) (by rfl) (fun w9 h9 => (by go_simp; first | done | rfl)) (by go_simp; first | done | rfl) ?_
      refine ⟨fun _ h => (by cases h), ?_⟩
      obtain ⟨va2, vc2, rfl⟩ := own_shape ho'
      obtain ⟨v7, w7, hr7, ho7, hg7, _⟩ := app_grow ys ab cb ho' b5.size (by simp [HY.out]; omega) (HBr.out.below b5)
      have hb7 := grown_below ho' b5.size hg7
      rw [HY.out] at hr7
      have HR7 := hide hr7
      have HO7 : Hid (w7.ownsRow w.heap.size 5 1 v7 (ff16 ++ [(19 + nb) / 256, (19 + nb) % 256, k] ++ ys).length (bcells (ff16 ++ [(19 + nb) / 256, (19 + nb) % 256, k] ++ ys))) := by
        have e : List.replicate 16 255 ++ [(19 + nb) / 256, (19 + nb) % 256] ++ [k] ++ ys = ff16 ++ [(19 + nb) / 256, (19 + nb) % 256, k] ++ ys := by simp [ff16]
        rw [e] at ho7
        exact own_low ho7 (by omega)
      have HB7 : Hid (Below w.heap.size w w7) := HB2.out.trans ((b5.trans hb7).mono (by omega))
      clear hr ho' hg' hb' b5 hr7 ho7 hg7 hb7 hoW hdW hbW kc
      have e19 : (List.replicate 16 255 ++ [(19 + nb) / 256, (19 + nb) % 256] ++ [k]).length = 19 := by simp
      rw [e19] at HR7 ⊢
      go_wp2_with ((with_reducible refine wpl_append _ _ 22 _ (.slice ab nb cb) _ ?_ ?_ HR7.out ?_); (· rfl); (· rfl))
      go_ret
      exact ⟨_, rfl, HO7.out, HB7.out⟩
end
theorem rmsg_alive (w : World) : Calls Tryz.prog 11 #[.agg (msgC 4 0 0 (.slice none 0 0))] w fun e w' => ∃ a c, e = .returned (.slice (some a) 19 c) ∧ 19 ≤ c ∧ a.spot = none ∧ w.heap.size ≤ a.block ∧ Hid (BRd w' (some a) (ff16 ++ [0, 19, 4])) ∧ Hid (Below w.heap.size w w') := by
  refine (rmsg_any 4 (msgC 4 0 0 (.slice none 0 0)) [] 0 w (MC.msg 4 0 0 none 0 0) rfl (by decide) rfl (by decide) (fun o => ?_)).mono ?_
  · refine (rbody_alive (w.alloc o)).mono ?_
    rintro e w' ⟨rfl, hb⟩
    exact ⟨none, 0, rfl, brd_none _ _, hb⟩
  · rintro e w' ⟨v, rfl, ho, hb⟩
    have e1 : ff16 ++ [(19 + 0) / 256, (19 + 0) % 256, 4] ++ [] = ff16 ++ [0, 19, 4] := by decide
    rw [e1] at ho
    obtain ⟨a, c, rfl, hc, hr⟩ := own_brd ho (by decide) (by decide)
    obtain ⟨b, off, rfl, _⟩ := hr.1.2 (by decide)
    exact ⟨_, c, rfl, hc, rfl, (own_block ho b (by simp [Value.ownBlock])).1, hr, hb⟩
end Go.Proofs.YtkmfnafecdfedaaGreatDoor
