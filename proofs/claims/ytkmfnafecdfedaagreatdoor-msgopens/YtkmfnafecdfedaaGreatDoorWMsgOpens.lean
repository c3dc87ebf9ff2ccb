/- MsgOpens' walk. -/
import Derived.Test.YtkmfnafecdfedaaGreatDoorRmP
import Derived.Test.YtkmfnafecdfedaaGreatDoorMgAn
namespace Go.Proofs.YtkmfnafecdfedaaGreatDoor
open Go.RowKit
set_option maxRecDepth 100000

theorem run_buildO (a h : Int) (i : Nat) (c : Cp) (w : World) : (Instr.build 40 #[(0, .int .i64 1), (1, .agg (openZ a h i c))]).run Tryz.prog w = .ok (.agg (openMsg 1 (openZ a h i c))) w := by kernel_rfl
/-- A Note in its box. -/
structure NB (w : World) (N : Nat) (k s : Nat) (a : Option Addr) (n c : Nat) : Prop where
  c0 : w.cell? ⟨N, 0, none⟩ = some (.int .i64 (k : Int))
  c1 : w.cell? ⟨N, 1, none⟩ = some (.int .i64 (s : Int))
  c2 : w.cell? ⟨N, 2, none⟩ = some (.slice a n c)
theorem NB.lt {w : World} {N k s n c : Nat} {a : Option Addr} (h : NB w N k s a n c) : N < w.heap.size := World.block_lt_of_cell? w _ h.c0
theorem NB.below {w w' : World} {N k s n c : Nat} {a : Option Addr} (h : NB w N k s a n c) (hb : Below w.heap.size w w') : NB w' N k s a n c :=
  ⟨by rw [hb.cell (p := ⟨N, 0, none⟩) h.lt]; exact h.c0, by rw [hb.cell (p := ⟨N, 1, none⟩) h.lt]; exact h.c1, by rw [hb.cell (p := ⟨N, 2, none⟩) h.lt]; exact h.c2⟩
theorem own_setb {w : World} {B g n c : Nat} {bs : List Nat} (h : w.ownsRow B 5 1 (.slice (some ⟨g, 0, none⟩) n c) n (bcells bs)) (j x : Nat) : (w.setCell ⟨g, j, none⟩ (.int .u8 (x : Int))).ownsRow B 5 1 (.slice (some ⟨g, 0, none⟩) n c) n (bcells (bs.set j x)) := by
  have := (h.stored j (.int .u8 (x : Int))).1
  have e : bcells (bs.set j x) = (bcells bs).set j (.int .u8 (x : Int)) := by simp [bcells, List.map_set]
  rw [e]
  exact this
theorem own_at {w : World} {B g n c : Nat} {bs : List Nat} (h : w.ownsRow B 5 1 (.slice (some ⟨g, 0, none⟩) n c) n (bcells bs)) (hn : bs.length = n) (j : Nat) (hj : j < n) : w.cell? ⟨g, j, none⟩ = some (.int .u8 ((bs.getD j 0 : Nat) : Int)) ∧ w.frozen? ⟨g, j, none⟩ = false ∧ g < w.heap.size := by
  refine ⟨?_, h.frozenAt j, (own_block h g rfl).2⟩
  rw [h.cellAt j (by omega)]
  have hj2 : j < bs.length := by omega
  simp [bcells, List.getD_eq_getElem?_getD, hj2]
theorem own_read {w : World} {B g n c : Nat} {bs : List Nat} (h : w.ownsRow B 5 1 (.slice (some ⟨g, 0, none⟩) n c) n (bcells bs)) (hn : bs.length = n) (hl : n ≤ 5000) (hb : ∀ x ∈ bs, x < 256) : BRd w (some ⟨g, 0, none⟩) bs ∧ n ≤ c := by
  subst hn
  obtain ⟨a, c', e, h1, h2⟩ := own_brd h (by omega) hb
  injection e with e1 _ e3
  subst e1 e3
  exact ⟨h2, h1⟩
/-- A copy of bytes, of the call's own. -/
theorem app_copy {W : World} {a : Option Addr} {bs : List Nat} {n : Nat} (c : Nat) (hn : bs.length = n) (h0 : 0 < n) (hl : n ≤ 5000) (h : BRd W a bs) :
    ∃ g c' W', (Builtin.append_ #[22, 22] 22 #[.slice (some ⟨W.heap.size, 0, none⟩) 0 0, .slice a n c]).run Tryz.prog (W.alloc (.cells #[] 5)) = .ok (.slice (some ⟨g, 0, none⟩) n c') W' ∧ W.heap.size ≤ g ∧ W'.ownsRow W.heap.size 5 1 (.slice (some ⟨g, 0, none⟩) n c') n (bcells bs) ∧ Below W.heap.size W W' := by
  have hb2 : Below W.heap.size W (W.alloc (.cells #[] 5)) := (Below.refl _ _).alloc (Nat.le_refl _) _
  have hm : (W.alloc (.cells #[] 5)).ownsRow W.heap.size 5 1 (.slice (some ⟨W.heap.size, 0, none⟩) 0 0) 0 (bcells []) :=
    ⟨rfl, .inr ⟨W.heap.size, 0, _, rfl, Nat.le_refl _, by unfold World.alloc; exact Array.getElem?_push_size, Nat.le_refl _, by unfold maxLen; omega, rfl, rfl⟩⟩
  obtain ⟨v', w3, hr, ho, hb3⟩ := app_brd (n := 0) (ys := []) bs a c rfl hm hb2.size (by omega) (h.below hb2)
  have e0 : (([] : List Nat) ++ bs).length = n := by simpa using hn
  have e1 : ([] : List Nat) ++ bs = bs := rfl
  rw [e0, e1] at ho
  rw [hn] at hr
  obtain ⟨g, cap, e, hg, _⟩ := ho.form h0
  subst e
  exact ⟨g, cap, w3, hr, hg, ho, hb2.trans hb3⟩
theorem note_box {Wd W5 : World} {C : Array Value} (hC : MC C) : (Instr.storeAt 40 (.pointer (some ⟨Wd.heap.size, 0, none⟩)) (.agg C)).run Tryz.prog ((Wd.alloc (.cells zM 40)).alloc (.cells #[.int .i64 0, .int .i64 0, .slice none 0 0] 38)) = .ok () (((Wd.alloc (.cells zM 40)).alloc (.cells #[.int .i64 0, .int .i64 0, .slice none 0 0] 38)).setCells Wd.heap.size 0 C.toList) ∧
    (W5 = ((Wd.alloc (.cells zM 40)).alloc (.cells #[.int .i64 0, .int .i64 0, .slice none 0 0] 38)).setCells Wd.heap.size 0 C.toList → Below Wd.heap.size Wd W5 ∧ W5.heap[Wd.heap.size + 1]? = some (.cells #[.int .i64 0, .int .i64 0, .slice none 0 0] 38 (0, 0))) := by
  have hM : ((Wd.alloc (.cells zM 40)).alloc (.cells #[.int .i64 0, .int .i64 0, .slice none 0 0] 38)).heap[Wd.heap.size]? = some (.cells zM 40 (0, 0)) := by rw [heap_old (by simp)]; exact heap_alloc_new Wd _
  have hN : ((Wd.alloc (.cells zM 40)).alloc (.cells #[.int .i64 0, .int .i64 0, .slice none 0 0] 38)).heap[Wd.heap.size + 1]? = some (.cells #[.int .i64 0, .int .i64 0, .slice none 0 0] 38 (0, 0)) := by
    have h9 := heap_alloc_new (Wd.alloc (.cells zM 40)) (.cells #[.int .i64 0, .int .i64 0, .slice none 0 0] 38)
    rw [World.size_alloc] at h9
    exact h9
  refine ⟨run_storeM hM rfl hC, fun e => ?_⟩
  subst e
  refine ⟨?_, by rw [heap_sets (by omega)]; exact hN⟩
  have hk := (Keeps.refl (fun x => x = Wd.heap.size) ((Wd.alloc (.cells zM 40)).alloc (.cells #[.int .i64 0, .int .i64 0, .slice none 0 0] 38))).setCells Wd.heap.size 0 C.toList (.inl rfl)
  exact (((Below.refl _ _).alloc (Nat.le_refl _) _).alloc (by simp) _).trans (hk.below _ (by simp <;> omega) (fun b e => by omega))
section
attribute [local go_sem ↓] keptM_load keptM_store keptM_alloc keptM_build kept_append
set_option maxHeartbeats 4000000 in
theorem mo_none4 (a h : Int) (i : Nat) (c : Cp) (v y : Nat) (w : World) (hS : SaidM w) (hf : c.four = true) (hg : openG c.as4 h c = false) :
    Calls Tryz.prog 4 #[.agg (openZ a h i c), .int .u8 (v : Int), .int .u16 (y : Int)] w fun e w' => e = .returned (.bool true) ∧ Below w.heap.size w w' := by
  have HS := hide hS
  clear hS
  have hz : openZ c.as4 h i c = #[.int .i64 c.as4, .int .i64 h, .int .u32 (i : Int), .bool true, .int .i64 c.as4, .bool c.gr, .bool c.rs, .int .i64 c.tm, .bool c.fam, .bool c.fwd, .bool c.ll, .int .i64 c.lt] := by unfold openZ; rw [hf]
  obtain ⟨C, hC⟩ : ∃ C, C = openMsg 1 (openZ c.as4 h i c) := ⟨_, rfl⟩
  have HBU : Hid (∀ W, (Instr.build 40 #[(0, .int .i64 1), (1, .agg #[.int .i64 c.as4, .int .i64 h, .int .u32 (i : Int), .bool true, .int .i64 c.as4, .bool c.gr, .bool c.rs, .int .i64 c.tm, .bool c.fam, .bool c.fwd, .bool c.ll, .int .i64 c.lt])]).run Tryz.prog W = .ok (.agg C) W) := fun W => by
    rw [← hz, hC]
    exact run_buildO c.as4 h i c W
  have HMS : Hid (∀ W, Calls Tryz.prog 11 #[.agg C] W fun e w' => e = .returned (.slice none 0 0) ∧ Below W.heap.size W w') := fun W => by rw [hC]; exact rmsg_bad c.as4 h i c W hg
  have HB0 : Hid (Below w.heap.size w (w.alloc (.cells #[.int .i64 c.as4, .int .i64 h, .int .u32 (i : Int), .bool true, .int .i64 c.as4, .bool c.gr, .bool c.rs, .int .i64 c.tm, .bool c.fam, .bool c.fwd, .bool c.ll, .int .i64 c.lt] 28))) := (Below.refl _ _).alloc (Nat.le_refl _) _
  have HX0 : Hid ((w.alloc (.cells #[.int .i64 c.as4, .int .i64 h, .int .u32 (i : Int), .bool true, .int .i64 c.as4, .bool c.gr, .bool c.rs, .int .i64 c.tm, .bool c.fam, .bool c.fwd, .bool c.ll, .int .i64 c.lt] 28)).heap[w.heap.size]? = some (.cells #[.int .i64 c.as4, .int .i64 h, .int .u32 (i : Int), .bool true, .int .i64 c.as4, .bool c.gr, .bool c.rs, .int .i64 c.tm, .bool c.fam, .bool c.fwd, .bool c.ll, .int .i64 c.lt] 28 (0, 0))) := heap_alloc_new w _
  clear hz hC hg
  unfold openZ
  rw [hf]
  clear hf
  go_enter Tryz.func4, Tryz.ntmps4
  go_wp2_with fail
  refine keptM_build2_intro _ _ _ _ _ _ _ (by rfl) (by rfl) (HBU.out _) ?_
  generalize w.alloc (.cells #[.int .i64 c.as4, .int .i64 h, .int .u32 (i : Int), .bool true, .int .i64 c.as4, .bool c.gr, .bool c.rs, .int .i64 c.tm, .bool c.fam, .bool c.fwd, .bool c.ll, .int .i64 c.lt] 28) = w0 at *
  clear HBU
  have HCL : Hid (∀ W, Below w0.heap.size w0 W → ∀ j v, (#[.int .i64 c.as4, .int .i64 h, .int .u32 (i : Int), .bool true, .int .i64 c.as4, .bool c.gr, .bool c.rs, .int .i64 c.tm, .bool c.fam, .bool c.fwd, .bool c.ll, .int .i64 c.lt] : Array Value)[j]? = some v → W.cell? ⟨w.heap.size, j, none⟩ = some v) := fun W hW j v hv => by
    have hx : W.heap[w.heap.size]? = some (.cells #[.int .i64 c.as4, .int .i64 h, .int .u32 (i : Int), .bool true, .int .i64 c.as4, .bool c.gr, .bool c.rs, .int .i64 c.tm, .bool c.fam, .bool c.fwd, .bool c.ll, .int .i64 c.lt] 28 (0, 0)) := by rw [hW.block _ (Array.getElem?_eq_some_iff.1 HX0.out).1]; exact HX0.out
    have := range_of hx j v (by rw [Array.getElem?_toList]; exact hv)
    simpa using this
  have hz0 : w.heap.size < w0.heap.size := (Array.getElem?_eq_some_iff.1 HX0.out).1
  clear HX0
  go_wp2_with fail
  refine (HMS.out w0).mono ?_
  rintro e w1 ⟨rfl, hb1⟩
  have HB1 := hide (HB0.out.trans (hb1.mono HB0.out.size))
  clear hb1 HCL hz0 HB0 HMS
  go_wp2_with fail
  refine (answers_any w1 (HS.out.below HB1.out)).mono ?_
  rintro e w2 ⟨rfl, hb2⟩
  have HB2 := hide (HB1.out.trans (hb2.mono HB1.out.size))
  clear hb2
  go_wp2
  go_ret
  exact ⟨rfl, HB2.out⟩
set_option maxHeartbeats 4000000 in
theorem mo_none2 (a h : Int) (i : Nat) (c : Cp) (v y : Nat) (w : World) (hS : SaidM w) (hf : c.four = false) (hg : openG a h c = false) :
    Calls Tryz.prog 4 #[.agg (openZ a h i c), .int .u8 (v : Int), .int .u16 (y : Int)] w fun e w' => e = .returned (.bool true) ∧ Below w.heap.size w w' := by
  have HS := hide hS
  clear hS
  have hz : openZ a h i c = #[.int .i64 a, .int .i64 h, .int .u32 (i : Int), .bool false, .int .i64 c.as4, .bool c.gr, .bool c.rs, .int .i64 c.tm, .bool c.fam, .bool c.fwd, .bool c.ll, .int .i64 c.lt] := by unfold openZ; rw [hf]
  obtain ⟨C, hC⟩ : ∃ C, C = openMsg 1 (openZ a h i c) := ⟨_, rfl⟩
  have HBU : Hid (∀ W, (Instr.build 40 #[(0, .int .i64 1), (1, .agg #[.int .i64 a, .int .i64 h, .int .u32 (i : Int), .bool false, .int .i64 c.as4, .bool c.gr, .bool c.rs, .int .i64 c.tm, .bool c.fam, .bool c.fwd, .bool c.ll, .int .i64 c.lt])]).run Tryz.prog W = .ok (.agg C) W) := fun W => by
    rw [← hz, hC]
    exact run_buildO a h i c W
  have HMS : Hid (∀ W, Calls Tryz.prog 11 #[.agg C] W fun e w' => e = .returned (.slice none 0 0) ∧ Below W.heap.size W w') := fun W => by rw [hC]; exact rmsg_bad a h i c W hg
  have HB0 : Hid (Below w.heap.size w (w.alloc (.cells #[.int .i64 a, .int .i64 h, .int .u32 (i : Int), .bool false, .int .i64 c.as4, .bool c.gr, .bool c.rs, .int .i64 c.tm, .bool c.fam, .bool c.fwd, .bool c.ll, .int .i64 c.lt] 28))) := (Below.refl _ _).alloc (Nat.le_refl _) _
  have HX0 : Hid ((w.alloc (.cells #[.int .i64 a, .int .i64 h, .int .u32 (i : Int), .bool false, .int .i64 c.as4, .bool c.gr, .bool c.rs, .int .i64 c.tm, .bool c.fam, .bool c.fwd, .bool c.ll, .int .i64 c.lt] 28)).heap[w.heap.size]? = some (.cells #[.int .i64 a, .int .i64 h, .int .u32 (i : Int), .bool false, .int .i64 c.as4, .bool c.gr, .bool c.rs, .int .i64 c.tm, .bool c.fam, .bool c.fwd, .bool c.ll, .int .i64 c.lt] 28 (0, 0))) := heap_alloc_new w _
  clear hz hC hg
  unfold openZ
  rw [hf]
  clear hf
  go_enter Tryz.func4, Tryz.ntmps4
  go_wp2_with fail
  refine keptM_build2_intro _ _ _ _ _ _ _ (by rfl) (by rfl) (HBU.out _) ?_
  generalize w.alloc (.cells #[.int .i64 a, .int .i64 h, .int .u32 (i : Int), .bool false, .int .i64 c.as4, .bool c.gr, .bool c.rs, .int .i64 c.tm, .bool c.fam, .bool c.fwd, .bool c.ll, .int .i64 c.lt] 28) = w0 at *
  clear HBU
  have HCL : Hid (∀ W, Below w0.heap.size w0 W → ∀ j v, (#[.int .i64 a, .int .i64 h, .int .u32 (i : Int), .bool false, .int .i64 c.as4, .bool c.gr, .bool c.rs, .int .i64 c.tm, .bool c.fam, .bool c.fwd, .bool c.ll, .int .i64 c.lt] : Array Value)[j]? = some v → W.cell? ⟨w.heap.size, j, none⟩ = some v) := fun W hW j v hv => by
    have hx : W.heap[w.heap.size]? = some (.cells #[.int .i64 a, .int .i64 h, .int .u32 (i : Int), .bool false, .int .i64 c.as4, .bool c.gr, .bool c.rs, .int .i64 c.tm, .bool c.fam, .bool c.fwd, .bool c.ll, .int .i64 c.lt] 28 (0, 0)) := by rw [hW.block _ (Array.getElem?_eq_some_iff.1 HX0.out).1]; exact HX0.out
    have := range_of hx j v (by rw [Array.getElem?_toList]; exact hv)
    simpa using this
  have hz0 : w.heap.size < w0.heap.size := (Array.getElem?_eq_some_iff.1 HX0.out).1
  clear HX0
  go_wp2_with fail
  refine (HMS.out w0).mono ?_
  rintro e w1 ⟨rfl, hb1⟩
  have HB1 := hide (HB0.out.trans (hb1.mono HB0.out.size))
  clear hb1 HCL hz0 HB0 HMS
  go_wp2_with fail
  refine (answers_any w1 (HS.out.below HB1.out)).mono ?_
  rintro e w2 ⟨rfl, hb2⟩
  have HB2 := hide (HB1.out.trans (hb2.mono HB1.out.size))
  clear hb2
  go_wp2
  go_ret
  exact ⟨rfl, HB2.out⟩
set_option maxHeartbeats 4000000 in
theorem mo_two (a h : Int) (i : Nat) (c : Cp) (v y : Nat) (w : World) (hS : SaidM w) (hi : i < 4294967296) (hf : c.four = false) (hg : openG a h c = true) :
    Calls Tryz.prog 4 #[.agg (openZ a h i c), .int .u8 (v : Int), .int .u16 (y : Int)] w fun e w' => e = .returned (.bool true) ∧ Below w.heap.size w w' := by
  have HS := hide hS
  clear hS
  have hz : openZ a h i c = #[.int .i64 a, .int .i64 h, .int .u32 (i : Int), .bool false, .int .i64 c.as4, .bool c.gr, .bool c.rs, .int .i64 c.tm, .bool c.fam, .bool c.fwd, .bool c.ll, .int .i64 c.lt] := by unfold openZ; rw [hf]
  obtain ⟨C, hC⟩ : ∃ C, C = openMsg 1 (openZ a h i c) := ⟨_, rfl⟩
  have HBU : Hid (∀ W, (Instr.build 40 #[(0, .int .i64 1), (1, .agg #[.int .i64 a, .int .i64 h, .int .u32 (i : Int), .bool false, .int .i64 c.as4, .bool c.gr, .bool c.rs, .int .i64 c.tm, .bool c.fam, .bool c.fwd, .bool c.ll, .int .i64 c.lt])]).run Tryz.prog W = .ok (.agg C) W) := fun W => by
    rw [← hz, hC]
    exact run_buildO a h i c W
  have HMS : Hid (∀ W, Calls Tryz.prog 11 #[.agg C] W fun e w' => ∃ a9 n9 c9, e = .returned (.slice a9 n9 c9) ∧ 29 ≤ n9 ∧ Below W.heap.size W w') := fun W => by
    rw [hC]
    refine (rmsg_open a h i c W hg hi).mono ?_
    rintro e w' ⟨v9, rfl, ho, hb⟩
    obtain ⟨a9, c9, rfl⟩ := own_shape ho
    exact ⟨a9, _, c9, rfl, by unfold openM; rw [msgB_length, openB_length]; omega, hb⟩
  have HB0 : Hid (Below w.heap.size w (w.alloc (.cells #[.int .i64 a, .int .i64 h, .int .u32 (i : Int), .bool false, .int .i64 c.as4, .bool c.gr, .bool c.rs, .int .i64 c.tm, .bool c.fam, .bool c.fwd, .bool c.ll, .int .i64 c.lt] 28))) := (Below.refl _ _).alloc (Nat.le_refl _) _
  have HX0 : Hid ((w.alloc (.cells #[.int .i64 a, .int .i64 h, .int .u32 (i : Int), .bool false, .int .i64 c.as4, .bool c.gr, .bool c.rs, .int .i64 c.tm, .bool c.fam, .bool c.fwd, .bool c.ll, .int .i64 c.lt] 28)).heap[w.heap.size]? = some (.cells #[.int .i64 a, .int .i64 h, .int .u32 (i : Int), .bool false, .int .i64 c.as4, .bool c.gr, .bool c.rs, .int .i64 c.tm, .bool c.fam, .bool c.fwd, .bool c.ll, .int .i64 c.lt] 28 (0, 0))) := heap_alloc_new w _
  clear hz hC hg
  unfold openZ
  rw [hf]
  clear hf
  go_enter Tryz.func4, Tryz.ntmps4
  go_wp2_with fail
  refine keptM_build2_intro _ _ _ _ _ _ _ (by rfl) (by rfl) (HBU.out _) ?_
  generalize w.alloc (.cells #[.int .i64 a, .int .i64 h, .int .u32 (i : Int), .bool false, .int .i64 c.as4, .bool c.gr, .bool c.rs, .int .i64 c.tm, .bool c.fam, .bool c.fwd, .bool c.ll, .int .i64 c.lt] 28) = w0 at *
  clear HBU
  have HCL : Hid (∀ W, Below w0.heap.size w0 W → ∀ j v, (#[.int .i64 a, .int .i64 h, .int .u32 (i : Int), .bool false, .int .i64 c.as4, .bool c.gr, .bool c.rs, .int .i64 c.tm, .bool c.fam, .bool c.fwd, .bool c.ll, .int .i64 c.lt] : Array Value)[j]? = some v → W.cell? ⟨w.heap.size, j, none⟩ = some v) := fun W hW j v hv => by
    have hx : W.heap[w.heap.size]? = some (.cells #[.int .i64 a, .int .i64 h, .int .u32 (i : Int), .bool false, .int .i64 c.as4, .bool c.gr, .bool c.rs, .int .i64 c.tm, .bool c.fam, .bool c.fwd, .bool c.ll, .int .i64 c.lt] 28 (0, 0)) := by rw [hW.block _ (Array.getElem?_eq_some_iff.1 HX0.out).1]; exact HX0.out
    have := range_of hx j v (by rw [Array.getElem?_toList]; exact hv)
    simpa using this
  have hz0 : w.heap.size < w0.heap.size := (Array.getElem?_eq_some_iff.1 HX0.out).1
  clear HX0
  go_wp2_with fail
  refine (HMS.out w0).mono ?_
  rintro e w1 ⟨a9, n9, c9, rfl, h29, hb1⟩
  have HB1 := hide (HB0.out.trans (hb1.mono HB0.out.size))
  have k3 : w1.cell? ⟨w.heap.size, 3, none⟩ = some (.bool false) := HCL.out w1 hb1 3 _ rfl
  have z1 : w.heap.size < w1.heap.size := Nat.lt_of_lt_of_le hz0 hb1.size
  have e0 : ((n9 : Int) == 0) = false := by simp; omega
  have e1 : (n9 == 0) = false := by simp; omega
  clear hb1 HCL hz0 HB0 HMS h29
  go_wp2_with fail
  refine (answers_any w1 (HS.out.below HB1.out)).mono ?_
  rintro e w2 ⟨rfl, hb2⟩
  have HB2 := hide (HB1.out.trans (hb2.mono HB1.out.size))
  clear hb2
  go_wp2
  go_ret
  exact ⟨rfl, HB2.out⟩
end
/-- Bytes of an OPEN, some turned: what Decode tells of them. -/
structure Tn (n : Nat) (xs : List Nat) (k s : Nat) (d : List Nat) : Prop where
  len : xs.length = n
  lt : ∀ x ∈ xs, x < 256
  head : headM xs = (n, 0, 0, [])
  kind : xs.getD 18 0 = 1
  note : noteR (openR (xs.drop 19)) = (k, s, d)
theorem tn_of {bd : List Nat} {n k s : Nat} {d : List Nat} (h : 19 + bd.length = n) (h10 : 10 ≤ bd.length) (h40 : bd.length ≤ 4077) (hl : ∀ x ∈ bd, x < 256) (hn : noteR (openR bd) = (k, s, d)) : Tn n (msgB bd) k s d :=
  ⟨by rw [msgB_length]; exact h, msgB_lt hl h40, by rw [msgB_head h10 h40, h], msgB_kind bd, by rw [msgB_drop]; exact hn⟩
theorem dec_turned {n k s g c B : Nat} {xs d : List Nat} {w : World} (hT : Tn n xs k s d) (ho : w.ownsRow B 5 1 (.slice (some ⟨g, 0, none⟩) n c) n (bcells xs)) (hS : SaidM w) (h29 : 29 ≤ n) (h5 : n ≤ 5000) :
    Calls Tryz.prog 7 #[.slice (some ⟨g, 0, none⟩) n c] w fun e w' => ∃ C a c', MC C ∧ e = .returned (.tuple #[.agg C, .agg #[.int .i64 (k : Int), .int .i64 (s : Int), .slice a d.length c']]) ∧ w'.ownsRow w.heap.size 5 1 (.slice a d.length c') d.length (bcells d) ∧ Below w.heap.size w w' := by
  obtain ⟨h1, h2⟩ := own_read ho hT.len h5 hT.lt
  refine (dec_open_any g 0 n c xs w hT.len h29 h5 h2 h1 hS hT.head hT.kind).mono ?_
  rintro e w' ⟨hd, hb⟩
  obtain ⟨C, a, c', q1, q2, q3⟩ := do_note hd hT.note
  exact ⟨C, a, c', q1, q2, q3, hb⟩
section
variable {P : Program} {a : Act} {w w' : World} {K : Act → World → Prop} {Q : Exit → Act → World → Prop} {dst : Option Tmp} {ty : TypeId} {pos : String} {after : Array Edge} {gd : Option (Nat × Bool)}
theorem keptN_store (x y : Operand) : Oper.wp P { dst := dst, op := .store 38 x y, type := ty, pos := pos, after := after, guard := gd } a w K Q = Kept P { dst := dst, op := .store 38 x y, type := ty, pos := pos, after := after, guard := gd } a w K Q := rfl
theorem keptN_store_intro (x y : Operand) (p v : Value) (hx : a.eval x = p) (hy : a.eval y = v) (hr : (Instr.storeAt 38 p v).run P w = .ok () w') (h : K (a.put dst undef) w') : Kept P { dst := dst, op := .store 38 x y, type := ty, pos := pos, after := after, guard := gd } a w K Q := by
  unfold Kept Oper.wp execOp
  simp only [hx, hy, Sem.run_bind, hr, Result.andThen_ok, Sem.run_pure]
  exact h
end
theorem note_put {Wd W5 : World} {k s n c : Nat} {a : Option Addr} (hb : Below Wd.heap.size Wd W5) (h : W5.heap[Wd.heap.size + 1]? = some (.cells #[.int .i64 0, .int .i64 0, .slice none 0 0] 38 (0, 0))) :
    ∃ W6, (Instr.storeAt 38 (.pointer (some ⟨Wd.heap.size + 1, 0, none⟩)) (.agg #[.int .i64 (k : Int), .int .i64 (s : Int), .slice a n c])).run Tryz.prog W5 = .ok () W6 ∧ Below Wd.heap.size Wd W6 ∧ NB W6 (Wd.heap.size + 1) k s a n c := by
  refine ⟨_, run_storeAt_mid (P := Tryz.prog) W5 (Wd.heap.size + 1) 0 38 #[.int .i64 (k : Int), .int .i64 (s : Int), .slice a n c] (there_at h _ (by simp)) (by rw [infoN]; rfl) (by simp [Value.oneCell']), ?_, ?_⟩
  · have hk := (Keeps.refl (fun x => x = Wd.heap.size + 1) W5).setCells (Wd.heap.size + 1) 0 (#[Value.int .i64 (k : Int), .int .i64 (s : Int), .slice a n c] : Array Value).toList (.inl rfl)
    exact hb.trans (hk.below _ hb.size (fun b e => by omega))
  · have hr := bx_set (C := #[.int .i64 (k : Int), .int .i64 (s : Int), .slice a n c]) h (by simp)
    exact ⟨by have := hr 0 _ rfl; simpa using this, by have := hr 1 _ rfl; simpa using this, by have := hr 2 _ rfl; simpa using this⟩
section
attribute [local go_sem ↓] keptM_load keptM_store keptM_alloc keptM_build kept_append keptN_store
set_option maxHeartbeats 12800000 in
theorem mo_main (a h : Int) (i : Nat) (c : Cp) (v y n l : Nat) (bs xs1 xs2 xs3 : List Nat) (k1 s1 k2 s2 : Nat) (d1 d2 : List Nat) (w : World) (hS : SaidM w) (hf : c.four = true) (hv : v < 256) (hy : y < 65536)
    (hg : ∀ W, Calls Tryz.prog 11 #[.agg (openMsg 1 (openZ c.as4 h i c))] W fun e w' => ∃ a9 c9, e = .returned (.slice a9 n c9) ∧ BRd w' a9 bs ∧ Below W.heap.size W w')
    (hln : bs.length = n) (h29 : 29 ≤ n) (hn5 : n ≤ 5000) (T1 : Tn n xs1 k1 s1 d1) (T2 : Tn n xs2 k2 s2 d2) (T3 : Tn n xs3 2 0 []) (e1 : bs.set 19 v = xs1) (e2 : (bs.set 20 (y / 256)).set 21 (y % 256) = xs2) (hl : bs.getD 28 0 = l) (hl25 : l ≤ 25) (e3 : bs.set 28 (l + 1) = xs3)
    (N1 : if v = 4 then (k1, s1, d1) = (0, 0, []) else (k1, s1, d1) = (2, 1, [0, 4])) (N2 : if (y ≠ 0 ∧ ((y : Int) = c.as4 ∨ y = 23456)) then (k2, s2, d2) = (0, 0, []) else (k2, s2, d2) = (2, 2, [])) :
    Calls Tryz.prog 4 #[.agg (openZ a h i c), .int .u8 (v : Int), .int .u16 (y : Int)] w fun e w' => e = .returned (.bool true) ∧ Below w.heap.size w w' := by
  have HS := hide hS
  have HLN := hide hln
  have HT1 := hide T1
  have HT2 := hide T2
  have HT3 := hide T3
  have HE1 := hide e1
  have HE2 := hide e2
  have HE3 := hide e3
  have HL := hide hl
  have HN1 := hide N1
  have HN2 := hide N2
  clear hS hln T1 T2 T3 e1 e2 e3 hl N1 N2
  have hz : openZ c.as4 h i c = #[.int .i64 c.as4, .int .i64 h, .int .u32 (i : Int), .bool true, .int .i64 c.as4, .bool c.gr, .bool c.rs, .int .i64 c.tm, .bool c.fam, .bool c.fwd, .bool c.ll, .int .i64 c.lt] := by unfold openZ; rw [hf]
  obtain ⟨C, hC⟩ : ∃ C, C = openMsg 1 (openZ c.as4 h i c) := ⟨_, rfl⟩
  have HBU : Hid (∀ W, (Instr.build 40 #[(0, .int .i64 1), (1, .agg #[.int .i64 c.as4, .int .i64 h, .int .u32 (i : Int), .bool true, .int .i64 c.as4, .bool c.gr, .bool c.rs, .int .i64 c.tm, .bool c.fam, .bool c.fwd, .bool c.ll, .int .i64 c.lt])]).run Tryz.prog W = .ok (.agg C) W) := fun W => by
    rw [← hz, hC]
    exact run_buildO c.as4 h i c W
  have HMS : Hid (∀ W, Calls Tryz.prog 11 #[.agg C] W fun e w' => ∃ a9 c9, e = .returned (.slice a9 n c9) ∧ BRd w' a9 bs ∧ Below W.heap.size W w') := fun W => by rw [hC]; exact hg W
  have HB0 : Hid (Below w.heap.size w (w.alloc (.cells #[.int .i64 c.as4, .int .i64 h, .int .u32 (i : Int), .bool true, .int .i64 c.as4, .bool c.gr, .bool c.rs, .int .i64 c.tm, .bool c.fam, .bool c.fwd, .bool c.ll, .int .i64 c.lt] 28))) := (Below.refl _ _).alloc (Nat.le_refl _) _
  have HX0 : Hid ((w.alloc (.cells #[.int .i64 c.as4, .int .i64 h, .int .u32 (i : Int), .bool true, .int .i64 c.as4, .bool c.gr, .bool c.rs, .int .i64 c.tm, .bool c.fam, .bool c.fwd, .bool c.ll, .int .i64 c.lt] 28)).heap[w.heap.size]? = some (.cells #[.int .i64 c.as4, .int .i64 h, .int .u32 (i : Int), .bool true, .int .i64 c.as4, .bool c.gr, .bool c.rs, .int .i64 c.tm, .bool c.fam, .bool c.fwd, .bool c.ll, .int .i64 c.lt] 28 (0, 0))) := heap_alloc_new w _
  clear hz hC hg
  unfold openZ
  rw [hf]
  clear hf
  go_enter Tryz.func4, Tryz.ntmps4
  go_wp2_with fail
  refine keptM_build2_intro _ _ _ _ _ _ _ (by rfl) (by rfl) (HBU.out _) ?_
  generalize w.alloc (.cells #[.int .i64 c.as4, .int .i64 h, .int .u32 (i : Int), .bool true, .int .i64 c.as4, .bool c.gr, .bool c.rs, .int .i64 c.tm, .bool c.fam, .bool c.fwd, .bool c.ll, .int .i64 c.lt] 28) = w0 at *
  clear HBU
  have HCL : Hid (∀ W, Below w0.heap.size w0 W → ∀ j v, (#[.int .i64 c.as4, .int .i64 h, .int .u32 (i : Int), .bool true, .int .i64 c.as4, .bool c.gr, .bool c.rs, .int .i64 c.tm, .bool c.fam, .bool c.fwd, .bool c.ll, .int .i64 c.lt] : Array Value)[j]? = some v → W.cell? ⟨w.heap.size, j, none⟩ = some v) := fun W hW j v hv => by
    have hx : W.heap[w.heap.size]? = some (.cells #[.int .i64 c.as4, .int .i64 h, .int .u32 (i : Int), .bool true, .int .i64 c.as4, .bool c.gr, .bool c.rs, .int .i64 c.tm, .bool c.fam, .bool c.fwd, .bool c.ll, .int .i64 c.lt] 28 (0, 0)) := by rw [hW.block _ (Array.getElem?_eq_some_iff.1 HX0.out).1]; exact HX0.out
    have := range_of hx j v (by rw [Array.getElem?_toList]; exact hv)
    simpa using this
  have hz0 : w.heap.size < w0.heap.size := (Array.getElem?_eq_some_iff.1 HX0.out).1
  clear HX0
  go_wp2_with fail
  refine (HMS.out w0).mono ?_
  rintro e w1 ⟨ab, cb, rfl, hbr, hb1⟩
  have HBR := hide hbr
  have HB1 := hide hb1
  have k3 : w1.cell? ⟨w.heap.size, 3, none⟩ = some (.bool true) := HCL.out w1 hb1 3 _ rfl
  have z1 : w.heap.size < w1.heap.size := Nat.lt_of_lt_of_le hz0 hb1.size
  have e0 : ((n : Int) == 0) = false := by simp; omega
  have e1 : (n == 0) = false := by simp; omega
  clear hbr hb1 HMS
  have HBW0 : Hid (Below w1.heap.size w1 w1) := Below.refl _ _
  obtain ⟨g1, c1, wA1, hr1, hg1, ho1, hb1⟩ := app_copy cb HLN.out (by omega) hn5 (HBR.out.below HBW0.out)
  have HR1 := hide hr1
  have HO1 := hide ho1
  have HB_1 := hide hb1
  have HG1 := hide hg1
  clear hr1 ho1 hb1 hg1
  go_wp2_with fail
  refine kept_append_intro _ _ _ _ _ (w' := wA1) (by rfl) (by rfl) (by exact HR1.out) ?_
  clear HR1 k3 z1 e0 e1
  obtain ⟨q1, q2, q3⟩ := own_at HO1.out HLN.out 19 (by omega)
  have hn19 : (19 : Int) < (n : Int) := by omega
  go_wp2_with fail
  have HOS1 := hide (own_setb HO1.out 19 v)
  have HBS1 : Hid (Below w1.heap.size w1 (wA1.setCell ⟨g1, 19, none⟩ (.int .u8 (v : Int)))) := HB_1.out.setCell HG1.out _
  rw [HE1.out] at HOS1
  generalize wA1.setCell ⟨g1, 19, none⟩ (.int .u8 (v : Int)) = wS1 at *
  clear q1 q2 q3 hn19
  refine (dec_turned HT1.out HOS1.out (HS.out.below (HB0.out.trans ((HB1.out.trans ((HBW0.out.trans (HBS1.out.mono HBW0.out.size)).mono HB1.out.size)).mono HB0.out.size))) h29 hn5).mono ?_
  rintro e wD1 ⟨C1, a1, n1, hm1, rfl, hd1, hbD1⟩
  have HDD1 := hide hd1
  have HBD1 : Hid (Below w1.heap.size w1 wD1) := HBS1.out.trans (hbD1.mono HBS1.out.size)
  clear hd1 hbD1 HOS1 HBS1
  go_wp2_with fail
  refine keptM_alloc_intro _ (run_allocM _) ?_
  go_wp2_with fail
  refine keptM_store_intro _ _ _ (.agg C1) (by rfl) (by rfl) (note_box (W5 := wD1) hm1).1 ?_
  obtain ⟨wM1, hwM1⟩ : ∃ W5, W5 = ((wD1.alloc (.cells zM 40)).alloc (.cells #[.int .i64 0, .int .i64 0, .slice none 0 0] 38)).setCells wD1.heap.size 0 C1.toList := ⟨_, rfl⟩
  obtain ⟨hbM1, hN1⟩ := (note_box hm1).2 hwM1
  rw [← hwM1]
  clear hwM1 hm1
  go_wp2_with fail
  obtain ⟨wN1, hrN1, hbN1, hnb1⟩ := note_put (k := k1) (s := s1) (n := d1.length) (c := n1) (a := a1) hbM1 hN1
  refine keptN_store_intro _ _ _ _ (by rfl) (by rfl) hrN1 ?_
  have HNB1 := hide hnb1
  have HBZ1 : Hid (Below w1.heap.size w1 wN1) := HBW0.out.trans ((HBD1.out.trans (hbN1.mono HBD1.out.size)).mono HBW0.out.size)
  have HDZ1 := hide (own_later HDD1.out hbN1)
  have HST1 : Hid (Below w1.heap.size w1 wN1) := HBD1.out.trans (hbN1.mono HBD1.out.size)
  obtain ⟨N1, hNN1⟩ : ∃ N, N = wD1.heap.size + 1 := ⟨_, rfl⟩
  rw [← hNN1] at HNB1
  rw [← hNN1]
  clear hbM1 hN1 hrN1 hbN1 hnb1 hNN1 HDD1 HBD1 HO1 HB_1 HG1
  obtain ⟨g2, c2, wA2, hr2, hg2, ho2, hb2⟩ := app_copy cb HLN.out (by omega) hn5 (HBR.out.below HBZ1.out)
  have HR2 := hide hr2
  have HO2 := hide ho2
  have HB2 := hide hb2
  have HG2 := hide hg2
  clear hr2 ho2 hb2 hg2
  go_wp2_with fail
  refine kept_append_intro _ _ _ _ _ (w' := wA2) (by rfl) (by rfl) (by exact HR2.out) ?_
  clear HR2 
  obtain ⟨q1, q2, q3⟩ := own_at HO2.out HLN.out 20 (by omega)
  obtain ⟨q4, q5, _⟩ := own_at HO2.out HLN.out 21 (by omega)
  have hn20 : (20 : Int) < (n : Int) := by omega
  have hn21 : (21 : Int) < (n : Int) := by omega
  have ya : IntKind.u8.wrap ((y : Int) / 256) = (y : Int) / 256 := by rw [IntKind.wrap_u8]; omega
  have yb : IntKind.u8.wrap ((y : Int) % 256) = (y : Int) % 256 := by rw [IntKind.wrap_u8]; omega
  go_wp2_with fail
  have HOS2 := hide (own_setb (own_setb HO2.out 20 (y / 256)) 21 (y % 256))
  rw [show ((y / 256 : Nat) : Int) = (y : Int) / 256 from by omega, show ((y % 256 : Nat) : Int) = (y : Int) % 256 from by omega, HE2.out] at HOS2
  have HBS2 : Hid (Below wN1.heap.size wN1 ((wA2.setCell ⟨g2, 20, none⟩ (.int .u8 ((y : Int) / 256))).setCell ⟨g2, 21, none⟩ (.int .u8 ((y : Int) % 256)))) := (HB2.out.setCell HG2.out _).setCell HG2.out _
  generalize (wA2.setCell ⟨g2, 20, none⟩ (.int .u8 ((y : Int) / 256))).setCell ⟨g2, 21, none⟩ (.int .u8 ((y : Int) % 256)) = wS2 at *
  clear q1 q2 q3 q4 q5 hn20 hn21 ya yb
  refine (dec_turned HT2.out HOS2.out (HS.out.below (HB0.out.trans ((HB1.out.trans ((HBZ1.out.trans (HBS2.out.mono HBZ1.out.size)).mono HB1.out.size)).mono HB0.out.size))) h29 hn5).mono ?_
  rintro e wD2 ⟨C2, a2, n2, hm2, rfl, hd2, hbD2⟩
  have HDD2 := hide hd2
  have HBD2 : Hid (Below wN1.heap.size wN1 wD2) := HBS2.out.trans (hbD2.mono HBS2.out.size)
  clear hd2 hbD2 HOS2 HBS2
  go_wp2_with fail
  refine keptM_alloc_intro _ (run_allocM _) ?_
  go_wp2_with fail
  refine keptM_store_intro _ _ _ (.agg C2) (by rfl) (by rfl) (note_box (W5 := wD2) hm2).1 ?_
  obtain ⟨wM2, hwM2⟩ : ∃ W5, W5 = ((wD2.alloc (.cells zM 40)).alloc (.cells #[.int .i64 0, .int .i64 0, .slice none 0 0] 38)).setCells wD2.heap.size 0 C2.toList := ⟨_, rfl⟩
  obtain ⟨hbM2, hN2⟩ := (note_box hm2).2 hwM2
  rw [← hwM2]
  clear hwM2 hm2
  go_wp2_with fail
  obtain ⟨wN2, hrN2, hbN2, hnb2⟩ := note_put (k := k2) (s := s2) (n := d2.length) (c := n2) (a := a2) hbM2 hN2
  refine keptN_store_intro _ _ _ _ (by rfl) (by rfl) hrN2 ?_
  have HNB2 := hide hnb2
  have HBZ2 : Hid (Below w1.heap.size w1 wN2) := HBZ1.out.trans ((HBD2.out.trans (hbN2.mono HBD2.out.size)).mono HBZ1.out.size)
  have HDZ2 := hide (own_later HDD2.out hbN2)
  have HST2 : Hid (Below wN1.heap.size wN1 wN2) := HBD2.out.trans (hbN2.mono HBD2.out.size)
  obtain ⟨N2, hNN2⟩ : ∃ N, N = wD2.heap.size + 1 := ⟨_, rfl⟩
  rw [← hNN2] at HNB2
  rw [← hNN2]
  clear hbM2 hN2 hrN2 hbN2 hnb2 hNN2 HDD2 HBD2 HO2 HB2 HG2
  obtain ⟨g3, c3, wA3, hr3, hg3, ho3, hb3⟩ := app_copy cb HLN.out (by omega) hn5 (HBR.out.below HBZ2.out)
  have HR3 := hide hr3
  have HO3 := hide ho3
  have HB3 := hide hb3
  have HG3 := hide hg3
  clear hr3 ho3 hb3 hg3
  go_wp2_with fail
  refine kept_append_intro _ _ _ _ _ (w' := wA3) (by rfl) (by rfl) (by exact HR3.out) ?_
  clear HR3 
  obtain ⟨q1, q2, q3⟩ := own_at HO3.out HLN.out 28 (by omega)
  rw [HL.out] at q1
  have hn28 : (28 : Int) < (n : Int) := by omega
  have zl : IntKind.u8.wrap ((l : Int) + 1) = (l : Int) + 1 := by rw [IntKind.wrap_u8]; omega
  go_wp2_with fail
  have HOS3 := hide (own_setb HO3.out 28 (l + 1))
  rw [show ((l + 1 : Nat) : Int) = (l : Int) + 1 from by omega, HE3.out] at HOS3
  have HBS3 : Hid (Below wN2.heap.size wN2 (wA3.setCell ⟨g3, 28, none⟩ (.int .u8 ((l : Int) + 1)))) := HB3.out.setCell HG3.out _
  generalize wA3.setCell ⟨g3, 28, none⟩ (.int .u8 ((l : Int) + 1)) = wS3 at *
  clear q1 q2 q3 hn28 zl
  refine (dec_turned HT3.out HOS3.out (HS.out.below (HB0.out.trans ((HB1.out.trans ((HBZ2.out.trans (HBS3.out.mono HBZ2.out.size)).mono HB1.out.size)).mono HB0.out.size))) h29 hn5).mono ?_
  rintro e wD3 ⟨C3, a3, n3, hm3, rfl, hd3, hbD3⟩
  have HDD3 := hide hd3
  have HBD3 : Hid (Below wN2.heap.size wN2 wD3) := HBS3.out.trans (hbD3.mono HBS3.out.size)
  clear hd3 hbD3 HOS3 HBS3
  go_wp2_with fail
  refine keptM_alloc_intro _ (run_allocM _) ?_
  go_wp2_with fail
  refine keptM_store_intro _ _ _ (.agg C3) (by rfl) (by rfl) (note_box (W5 := wD3) hm3).1 ?_
  obtain ⟨wM3, hwM3⟩ : ∃ W5, W5 = ((wD3.alloc (.cells zM 40)).alloc (.cells #[.int .i64 0, .int .i64 0, .slice none 0 0] 38)).setCells wD3.heap.size 0 C3.toList := ⟨_, rfl⟩
  obtain ⟨hbM3, hN3⟩ := (note_box hm3).2 hwM3
  rw [← hwM3]
  clear hwM3 hm3
  go_wp2_with fail
  obtain ⟨wN3, hrN3, hbN3, hnb3⟩ := note_put (k := 2) (s := 0) (n := ([] : List Nat).length) (c := n3) (a := a3) hbM3 hN3
  refine keptN_store_intro _ _ _ _ (by rfl) (by rfl) hrN3 ?_
  have HNB3 := hide hnb3
  have HBZ3 : Hid (Below w1.heap.size w1 wN3) := HBZ2.out.trans ((HBD3.out.trans (hbN3.mono HBD3.out.size)).mono HBZ2.out.size)
  have HDZ3 := hide (own_later HDD3.out hbN3)
  have HST3 : Hid (Below wN2.heap.size wN2 wN3) := HBD3.out.trans (hbN3.mono HBD3.out.size)
  obtain ⟨N3, hNN3⟩ : ∃ N, N = wD3.heap.size + 1 := ⟨_, rfl⟩
  rw [← hNN3] at HNB3
  rw [← hNN3]
  clear hbM3 hN3 hrN3 hbN3 hnb3 hNN3 HDD3 HBD3 HO3 HB3 HG3
  have HX3 : Hid (wN3.cell? ⟨w.heap.size, 0, none⟩ = some (.int .i64 c.as4)) := HCL.out wN3 (HB1.out.trans (HBZ3.out.mono HB1.out.size)) 0 _ rfl
  have z3 : w.heap.size < wN3.heap.size := World.block_lt_of_cell? wN3 _ HX3.out
  have HM1 := hide ((HNB1.out.below HST2.out).below HST3.out)
  have HM2 := hide (HNB2.out.below HST3.out)
  have HD1 := hide (own_later (own_later HDZ1.out HST2.out) HST3.out)
  have HW3 : Hid (Below w.heap.size w wN3) := HB0.out.trans ((HB1.out.trans (HBZ3.out.mono HB1.out.size)).mono HB0.out.size)
  clear HNB1 HNB2 HDZ1 HDZ2 HDZ3 HST1 HST2 HST3 HBZ1 HBZ2 HBZ3 HT1 HT2 HT3 HE1 HE2 HE3 HL HBR HLN HCL HBW0 HB1 HB0 hz0
  by_cases hv4 : v = 4
  · subst hv4
    have q := HN1.out
    rw [if_pos rfl] at q
    simp only [Prod.mk.injEq] at q
    obtain ⟨rfl, rfl, rfl⟩ := q
    by_cases y0 : y = 0
    · subst y0
      have q := HN2.out
      rw [if_neg (fun hh => hh.1 rfl)] at q
      simp only [Prod.mk.injEq] at q
      obtain ⟨rfl, rfl, rfl⟩ := q
      have kx := HX3.out
      go_wp2_with fail
      refine (answers_any wN3 (HS.out.below HW3.out)).mono ?_
      rintro e w9 ⟨rfl, hb9⟩
      have HW9 := hide (HW3.out.trans (hb9.mono HW3.out.size))
      have HQ2 := hide (HM2.out.below hb9)
      have HQ3 := hide (HNB3.out.below hb9)
      have n10 := (HM1.out.below hb9).c0
      have n11 := (HM1.out.below hb9).c1
      have n12 := (HM1.out.below hb9).c2
      have n20 := HQ2.out.c0
      have n21 := HQ2.out.c1
      have n30 := HQ3.out.c0
      have n31 := HQ3.out.c1
      have x1 := (HM1.out.below hb9).lt
      have x2 := HQ2.out.lt
      have x3 := HQ3.out.lt
      have hda := own_later HD1.out hb9
      clear hda kx z3 hb9
      go_wp2
      go_ret
      exact ⟨rfl, HW9.out⟩
    · have fy : ((y : Int) != 0) = true := by simp; omega
      have fy2 : (y != 0) = true := by simpa using y0
      by_cases ya : (y : Int) = c.as4
      · have fa : ((y : Int) == c.as4) = true := by simpa using ya
        have q := HN2.out
        rw [if_pos ⟨y0, .inl ya⟩] at q
        simp only [Prod.mk.injEq] at q
        obtain ⟨rfl, rfl, rfl⟩ := q
        have HYA := hide ya
        clear ya
        have kx := HX3.out
        go_wp2_with fail
        refine (answers_any wN3 (HS.out.below HW3.out)).mono ?_
        rintro e w9 ⟨rfl, hb9⟩
        have HW9 := hide (HW3.out.trans (hb9.mono HW3.out.size))
        have HQ2 := hide (HM2.out.below hb9)
        have HQ3 := hide (HNB3.out.below hb9)
        have n10 := (HM1.out.below hb9).c0
        have n11 := (HM1.out.below hb9).c1
        have n12 := (HM1.out.below hb9).c2
        have n20 := HQ2.out.c0
        have n21 := HQ2.out.c1
        have n30 := HQ3.out.c0
        have n31 := HQ3.out.c1
        have x1 := (HM1.out.below hb9).lt
        have x2 := HQ2.out.lt
        have x3 := HQ3.out.lt
        have hda := own_later HD1.out hb9
        clear hda kx z3 hb9
        go_wp2
        go_ret
        exact ⟨rfl, HW9.out⟩
      · have fa : ((y : Int) == c.as4) = false := by simpa using ya
        by_cases y2 : y = 23456
        · subst y2
          have fa2 : ((23456 : Int) == c.as4) = false := fa
          have q := HN2.out
          rw [if_pos ⟨y0, .inr rfl⟩] at q
          simp only [Prod.mk.injEq] at q
          obtain ⟨rfl, rfl, rfl⟩ := q
          clear ya y0
          have kx := HX3.out
          go_wp2_with fail
          refine (answers_any wN3 (HS.out.below HW3.out)).mono ?_
          rintro e w9 ⟨rfl, hb9⟩
          have HW9 := hide (HW3.out.trans (hb9.mono HW3.out.size))
          have HQ2 := hide (HM2.out.below hb9)
          have HQ3 := hide (HNB3.out.below hb9)
          have n10 := (HM1.out.below hb9).c0
          have n11 := (HM1.out.below hb9).c1
          have n12 := (HM1.out.below hb9).c2
          have n20 := HQ2.out.c0
          have n21 := HQ2.out.c1
          have n30 := HQ3.out.c0
          have n31 := HQ3.out.c1
          have x1 := (HM1.out.below hb9).lt
          have x2 := HQ2.out.lt
          have x3 := HQ3.out.lt
          have hda := own_later HD1.out hb9
          clear hda kx z3 hb9
          go_wp2
          go_ret
          exact ⟨rfl, HW9.out⟩
        · have fz : ((y : Int) == 23456) = false := by simp; omega
          have fz2 : (y == 23456) = false := by simpa using y2
          have q := HN2.out
          rw [if_neg (fun hh => by rcases hh.2 with h9 | h9; exact ya h9; exact y2 h9)] at q
          simp only [Prod.mk.injEq] at q
          obtain ⟨rfl, rfl, rfl⟩ := q
          clear ya y0 y2
          have kx := HX3.out
          go_wp2_with fail
          refine (answers_any wN3 (HS.out.below HW3.out)).mono ?_
          rintro e w9 ⟨rfl, hb9⟩
          have HW9 := hide (HW3.out.trans (hb9.mono HW3.out.size))
          have HQ2 := hide (HM2.out.below hb9)
          have HQ3 := hide (HNB3.out.below hb9)
          have n10 := (HM1.out.below hb9).c0
          have n11 := (HM1.out.below hb9).c1
          have n12 := (HM1.out.below hb9).c2
          have n20 := HQ2.out.c0
          have n21 := HQ2.out.c1
          have n30 := HQ3.out.c0
          have n31 := HQ3.out.c1
          have x1 := (HM1.out.below hb9).lt
          have x2 := HQ2.out.lt
          have x3 := HQ3.out.lt
          have hda := own_later HD1.out hb9
          clear hda kx z3 hb9
          go_wp2
          go_ret
          exact ⟨rfl, HW9.out⟩
  · have fv : ((v : Int) == 4) = false := by simp; omega
    have fv2 : (v == 4) = false := by simpa using hv4
    have q := HN1.out
    rw [if_neg hv4] at q
    simp only [Prod.mk.injEq] at q
    obtain ⟨rfl, rfl, rfl⟩ := q
    by_cases y0 : y = 0
    · subst y0
      have q := HN2.out
      rw [if_neg (fun hh => hh.1 rfl)] at q
      simp only [Prod.mk.injEq] at q
      obtain ⟨rfl, rfl, rfl⟩ := q
      have kx := HX3.out
      go_wp2_with fail
      refine (answers_any wN3 (HS.out.below HW3.out)).mono ?_
      rintro e w9 ⟨rfl, hb9⟩
      have HW9 := hide (HW3.out.trans (hb9.mono HW3.out.size))
      have HQ2 := hide (HM2.out.below hb9)
      have HQ3 := hide (HNB3.out.below hb9)
      have n10 := (HM1.out.below hb9).c0
      have n11 := (HM1.out.below hb9).c1
      have n12 := (HM1.out.below hb9).c2
      have n20 := HQ2.out.c0
      have n21 := HQ2.out.c1
      have n30 := HQ3.out.c0
      have n31 := HQ3.out.c1
      have x1 := (HM1.out.below hb9).lt
      have x2 := HQ2.out.lt
      have x3 := HQ3.out.lt
      have hda := own_later HD1.out hb9
      obtain ⟨aa, ca, ea2, _, hra⟩ := own_brd hda (by decide) (by decide)
      have e9 : aa = a1 := by
        injection ea2 with q1 _ _
        exact q1.symm
      rw [e9] at hra
      have HDA := hide hra
      clear hda hra kx z3 hb9 ea2 e9
      go_wp2_with fail
      refine (samed_any a1 (some ⟨w9.heap.size, 0, none⟩) n1 2 [0, 4] [0, 4] (w9.alloc (.cells #[.int .u8 0, .int .u8 4] 5)) (by decide) (HDA.out.below ((Below.refl _ _).alloc (Nat.le_refl _) _)) (brd_lits w9 [0, 4] (by decide) (by decide))).mono ?_
      rintro e w10 ⟨rfl, m10, hw10⟩
      have hb10 : Below w9.heap.size w9 w10 := by rw [hw10]; exact below_drewN ((Below.refl _ _).alloc (Nat.le_refl _) _) m10
      have HWX := hide (HW9.out.trans (hb10.mono HW9.out.size))
      have p20 := (HQ2.out.below hb10).c0
      have p21 := (HQ2.out.below hb10).c1
      have p30 := (HQ3.out.below hb10).c0
      have p31 := (HQ3.out.below hb10).c1
      have y2 := (HQ2.out.below hb10).lt
      have y3 := (HQ3.out.below hb10).lt
      clear hw10 hb10 n10 n11 n12 n20 n21 n30 n31 x1 x2 x3
      go_wp2
      go_ret
      exact ⟨rfl, HWX.out⟩
    · have fy : ((y : Int) != 0) = true := by simp; omega
      have fy2 : (y != 0) = true := by simpa using y0
      by_cases ya : (y : Int) = c.as4
      · have fa : ((y : Int) == c.as4) = true := by simpa using ya
        have q := HN2.out
        rw [if_pos ⟨y0, .inl ya⟩] at q
        simp only [Prod.mk.injEq] at q
        obtain ⟨rfl, rfl, rfl⟩ := q
        have HYA := hide ya
        clear ya
        have kx := HX3.out
        go_wp2_with fail
        refine (answers_any wN3 (HS.out.below HW3.out)).mono ?_
        rintro e w9 ⟨rfl, hb9⟩
        have HW9 := hide (HW3.out.trans (hb9.mono HW3.out.size))
        have HQ2 := hide (HM2.out.below hb9)
        have HQ3 := hide (HNB3.out.below hb9)
        have n10 := (HM1.out.below hb9).c0
        have n11 := (HM1.out.below hb9).c1
        have n12 := (HM1.out.below hb9).c2
        have n20 := HQ2.out.c0
        have n21 := HQ2.out.c1
        have n30 := HQ3.out.c0
        have n31 := HQ3.out.c1
        have x1 := (HM1.out.below hb9).lt
        have x2 := HQ2.out.lt
        have x3 := HQ3.out.lt
        have hda := own_later HD1.out hb9
        obtain ⟨aa, ca, ea2, _, hra⟩ := own_brd hda (by decide) (by decide)
        have e9 : aa = a1 := by
          injection ea2 with q1 _ _
          exact q1.symm
        rw [e9] at hra
        have HDA := hide hra
        clear hda hra kx z3 hb9 ea2 e9
        go_wp2_with fail
        refine (samed_any a1 (some ⟨w9.heap.size, 0, none⟩) n1 2 [0, 4] [0, 4] (w9.alloc (.cells #[.int .u8 0, .int .u8 4] 5)) (by decide) (HDA.out.below ((Below.refl _ _).alloc (Nat.le_refl _) _)) (brd_lits w9 [0, 4] (by decide) (by decide))).mono ?_
        rintro e w10 ⟨rfl, m10, hw10⟩
        have hb10 : Below w9.heap.size w9 w10 := by rw [hw10]; exact below_drewN ((Below.refl _ _).alloc (Nat.le_refl _) _) m10
        have HWX := hide (HW9.out.trans (hb10.mono HW9.out.size))
        have p20 := (HQ2.out.below hb10).c0
        have p21 := (HQ2.out.below hb10).c1
        have p30 := (HQ3.out.below hb10).c0
        have p31 := (HQ3.out.below hb10).c1
        have y2 := (HQ2.out.below hb10).lt
        have y3 := (HQ3.out.below hb10).lt
        clear hw10 hb10 n10 n11 n12 n20 n21 n30 n31 x1 x2 x3
        go_wp2
        go_ret
        exact ⟨rfl, HWX.out⟩
      · have fa : ((y : Int) == c.as4) = false := by simpa using ya
        by_cases y2 : y = 23456
        · subst y2
          have fa2 : ((23456 : Int) == c.as4) = false := fa
          have q := HN2.out
          rw [if_pos ⟨y0, .inr rfl⟩] at q
          simp only [Prod.mk.injEq] at q
          obtain ⟨rfl, rfl, rfl⟩ := q
          clear ya y0
          have kx := HX3.out
          go_wp2_with fail
          refine (answers_any wN3 (HS.out.below HW3.out)).mono ?_
          rintro e w9 ⟨rfl, hb9⟩
          have HW9 := hide (HW3.out.trans (hb9.mono HW3.out.size))
          have HQ2 := hide (HM2.out.below hb9)
          have HQ3 := hide (HNB3.out.below hb9)
          have n10 := (HM1.out.below hb9).c0
          have n11 := (HM1.out.below hb9).c1
          have n12 := (HM1.out.below hb9).c2
          have n20 := HQ2.out.c0
          have n21 := HQ2.out.c1
          have n30 := HQ3.out.c0
          have n31 := HQ3.out.c1
          have x1 := (HM1.out.below hb9).lt
          have x2 := HQ2.out.lt
          have x3 := HQ3.out.lt
          have hda := own_later HD1.out hb9
          obtain ⟨aa, ca, ea2, _, hra⟩ := own_brd hda (by decide) (by decide)
          have e9 : aa = a1 := by
            injection ea2 with q1 _ _
            exact q1.symm
          rw [e9] at hra
          have HDA := hide hra
          clear hda hra kx z3 hb9 ea2 e9
          go_wp2_with fail
          refine (samed_any a1 (some ⟨w9.heap.size, 0, none⟩) n1 2 [0, 4] [0, 4] (w9.alloc (.cells #[.int .u8 0, .int .u8 4] 5)) (by decide) (HDA.out.below ((Below.refl _ _).alloc (Nat.le_refl _) _)) (brd_lits w9 [0, 4] (by decide) (by decide))).mono ?_
          rintro e w10 ⟨rfl, m10, hw10⟩
          have hb10 : Below w9.heap.size w9 w10 := by rw [hw10]; exact below_drewN ((Below.refl _ _).alloc (Nat.le_refl _) _) m10
          have HWX := hide (HW9.out.trans (hb10.mono HW9.out.size))
          have p20 := (HQ2.out.below hb10).c0
          have p21 := (HQ2.out.below hb10).c1
          have p30 := (HQ3.out.below hb10).c0
          have p31 := (HQ3.out.below hb10).c1
          have y2 := (HQ2.out.below hb10).lt
          have y3 := (HQ3.out.below hb10).lt
          clear hw10 hb10 n10 n11 n12 n20 n21 n30 n31 x1 x2 x3
          go_wp2
          go_ret
          exact ⟨rfl, HWX.out⟩
        · have fz : ((y : Int) == 23456) = false := by simp; omega
          have fz2 : (y == 23456) = false := by simpa using y2
          have q := HN2.out
          rw [if_neg (fun hh => by rcases hh.2 with h9 | h9; exact ya h9; exact y2 h9)] at q
          simp only [Prod.mk.injEq] at q
          obtain ⟨rfl, rfl, rfl⟩ := q
          clear ya y0 y2
          have kx := HX3.out
          go_wp2_with fail
          refine (answers_any wN3 (HS.out.below HW3.out)).mono ?_
          rintro e w9 ⟨rfl, hb9⟩
          have HW9 := hide (HW3.out.trans (hb9.mono HW3.out.size))
          have HQ2 := hide (HM2.out.below hb9)
          have HQ3 := hide (HNB3.out.below hb9)
          have n10 := (HM1.out.below hb9).c0
          have n11 := (HM1.out.below hb9).c1
          have n12 := (HM1.out.below hb9).c2
          have n20 := HQ2.out.c0
          have n21 := HQ2.out.c1
          have n30 := HQ3.out.c0
          have n31 := HQ3.out.c1
          have x1 := (HM1.out.below hb9).lt
          have x2 := HQ2.out.lt
          have x3 := HQ3.out.lt
          have hda := own_later HD1.out hb9
          obtain ⟨aa, ca, ea2, _, hra⟩ := own_brd hda (by decide) (by decide)
          have e9 : aa = a1 := by
            injection ea2 with q1 _ _
            exact q1.symm
          rw [e9] at hra
          have HDA := hide hra
          clear hda hra kx z3 hb9 ea2 e9
          go_wp2_with fail
          refine (samed_any a1 (some ⟨w9.heap.size, 0, none⟩) n1 2 [0, 4] [0, 4] (w9.alloc (.cells #[.int .u8 0, .int .u8 4] 5)) (by decide) (HDA.out.below ((Below.refl _ _).alloc (Nat.le_refl _) _)) (brd_lits w9 [0, 4] (by decide) (by decide))).mono ?_
          rintro e w10 ⟨rfl, m10, hw10⟩
          have hb10 : Below w9.heap.size w9 w10 := by rw [hw10]; exact below_drewN ((Below.refl _ _).alloc (Nat.le_refl _) _) m10
          have HWX := hide (HW9.out.trans (hb10.mono HW9.out.size))
          have p20 := (HQ2.out.below hb10).c0
          have p21 := (HQ2.out.below hb10).c1
          have p30 := (HQ3.out.below hb10).c0
          have p31 := (HQ3.out.below hb10).c1
          have y2 := (HQ2.out.below hb10).lt
          have y3 := (HQ3.out.below hb10).lt
          clear hw10 hb10 n10 n11 n12 n20 n21 n30 n31 x1 x2 x3
          go_wp2
          go_ret
          exact ⟨rfl, HWX.out⟩
end
theorem msgOpens_walk (a h : Int) (i : Nat) (c : Cp) (z1 z2 : Int) (w : World) (hS : SaidM w) (hi : i < 4294967296) (w1 : (Lit.int IntKind.u8 z1).wf = true) (w2 : (Lit.int IntKind.u16 z2).wf = true) :
    Calls Tryz.prog 4 #[.agg (openZ a h i c), .int .u8 z1, .int .u16 z2] w fun e w' => e = .returned (.bool true) ∧ Below w.heap.size w w' := by
  have b1 := bounds_u8 w1
  have b2 : 0 ≤ z2 ∧ z2 < 65536 := by have := bounds_u16 w2; omega
  obtain ⟨v, rfl⟩ := Int.eq_ofNat_of_zero_le (show 0 ≤ z1 by omega)
  obtain ⟨y, rfl⟩ := Int.eq_ofNat_of_zero_le b2.1
  cases hf : c.four with
  | false =>
    cases hg : openG a h c with
    | false => exact mo_none2 a h i c v y w hS hf hg
    | true => exact mo_two a h i c v y w hS hi hf hg
  | true =>
    cases hg : openG c.as4 h c with
    | false => exact mo_none4 a h i c v y w hS hf hg
    | true =>
      have hv : v < 256 := by omega
      have hy : y < 65536 := by omega
      have hcl := encCp_length c
      have hlt := openB_lt c.as4 h i c hg
      have hlb := openB_length c.as4 h i c
      have g28 : (openM c.as4 h i c).getD 28 0 = (encCp c).length := by
        unfold openM msgB
        rw [openB_eq]
        simp [ff16, List.getD_eq_getElem?_getD]
      have hset : ∀ (j x : Nat), x < 256 → ∀ q ∈ (openB c.as4 h i c).set j x, q < 256 := fun j x hx q hq => by
        rcases List.mem_or_eq_of_mem_set hq with h9 | rfl
        · exact hlt q h9
        · exact hx
      have hn2 := open_two c.as4 h i c y hg
      have hasb : (y ≠ 0 ∧ ((y : Int) = c.as4 ∨ y = 23456)) ↔ asB y c = true := by
        unfold asB
        rw [hf]
        by_cases h0 : y = 0
        · simp [h0]
        · by_cases h1 : (y : Int) = c.as4
          · simp [h0, h1]
          · by_cases h2 : y = 23456
            · simp [h2]
            · simp [h0, h1, h2]
      refine mo_main a h i c v y (29 + (encCp c).length) (encCp c).length (openM c.as4 h i c) (msgB ((openB c.as4 h i c).set 0 v)) (msgB (((openB c.as4 h i c).set 1 (y / 256)).set 2 (y % 256))) (msgB ((openB c.as4 h i c).set 9 ((encCp c).length + 1)))
        (noteR (openR ((openB c.as4 h i c).set 0 v))).1 (noteR (openR ((openB c.as4 h i c).set 0 v))).2.1 (noteR (openR (((openB c.as4 h i c).set 1 (y / 256)).set 2 (y % 256)))).1 (noteR (openR (((openB c.as4 h i c).set 1 (y / 256)).set 2 (y % 256)))).2.1
        (noteR (openR ((openB c.as4 h i c).set 0 v))).2.2 (noteR (openR (((openB c.as4 h i c).set 1 (y / 256)).set 2 (y % 256)))).2.2 w hS hf hv hy (fun W => ?_) ?_ (by omega) (by omega) (tn_of (by rw [List.length_set, hlb]; omega) (by rw [List.length_set, hlb]; omega) (by rw [List.length_set, hlb]; omega) (hset 0 v hv) rfl) (tn_of (by rw [List.length_set, List.length_set, hlb]; omega) (by rw [List.length_set, List.length_set, hlb]; omega) (by rw [List.length_set, List.length_set, hlb]; omega) (fun q hq => ?_) rfl) (tn_of (by rw [List.length_set, hlb]; omega) (by rw [List.length_set, hlb]; omega) (by rw [List.length_set, hlb]; omega) (hset 9 _ (by omega)) (open_three c.as4 h i c _ hg (by omega))) ?_ ?_ g28 (by omega) ?_ ?_ ?_
      · refine (rmsg_open c.as4 h i c W hg hi).mono ?_
        rintro e w' ⟨v9, rfl, ho, hb⟩
        obtain ⟨a9, c9, rfl, _, hr⟩ := own_brd ho (by unfold openM; rw [msgB_length, hlb]; omega) (by unfold openM; exact msgB_lt hlt (by rw [hlb]; omega))
        exact ⟨a9, c9, by unfold openM; rw [msgB_length, hlb]; congr 2; omega, hr, hb⟩
      · unfold openM; rw [msgB_length, hlb]; omega
      · rcases List.mem_or_eq_of_mem_set hq with h9 | rfl
        · exact hset 1 (y / 256) (by omega) q h9
        · omega
      · exact msgB_set _ 0 v
      · unfold openM
        rw [show (20 : Nat) = 19 + 1 from rfl, msgB_set, show (21 : Nat) = 19 + 2 from rfl, msgB_set]
      · exact msgB_set _ 9 _
      · rw [open_one c.as4 h i c v hg hf rfl]
        by_cases h4 : v = 4
        · rw [if_pos h4, if_pos h4]
        · rw [if_neg h4, if_neg h4]
      · rw [hn2]
        by_cases h9 : asB y c = true
        · rw [if_pos (hasb.2 h9), if_pos h9]
        · rw [if_neg (fun hh => h9 (hasb.1 hh)), if_neg h9]
end Go.Proofs.YtkmfnafecdfedaaGreatDoor
