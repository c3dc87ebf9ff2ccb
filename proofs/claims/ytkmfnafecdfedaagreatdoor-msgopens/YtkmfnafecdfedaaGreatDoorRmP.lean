/- The document's Message of an OPEN; what its bytes are when some are turned. -/
import Derived.Test.YtkmfnafecdfedaaGreatDoorRmO
import Derived.Test.YtkmfnafecdfedaaGreatDoorMgD5
namespace Go.Proofs.YtkmfnafecdfedaaGreatDoor
open Go.RowKit
set_option maxRecDepth 100000

section
attribute [local go_sem ↓] keptM_load keptM_box
set_option maxHeartbeats 1600000 in
theorem rmsg_none (C : Array Value) (w : World) (hC : MC C)
    (KB : ∀ o, Calls Tryz.prog 31 #[.agg C] (w.alloc o) fun e w' => e = .returned (.tuple #[.slice none 0 0, .bool false]) ∧ Below (w.alloc o).heap.size (w.alloc o) w') :
    Calls Tryz.prog 11 #[.agg C] w fun e w' => e = .returned (.slice none 0 0) ∧ Below w.heap.size w w' := by
  have HKB := hide KB
  have bx0 : (w.alloc (.cells C 40)).heap[w.heap.size]? = some (.cells C 40 (0, 0)) := heap_alloc_new w _
  have HL := hide (run_loadM (range_of bx0) hC)
  clear hC KB bx0
  go_enter Tryz.func11, Tryz.ntmps11
  go_wp2_with (first | (refine keptM_box_intro _ (.agg C) _ (by rfl) (run_boxM C w) ?_) | (refine keptM_load_intro _ _ _ (by rfl) HL.out ?_))
  refine (HKB.out (.cells C 40)).mono ?_
  rintro e w2 ⟨rfl, hb2⟩
  have HB2 : Hid (Below w.heap.size w w2) := ((Below.refl _ _).alloc (Nat.le_refl _) _).trans (hb2.mono (by simp))
  clear hb2
  go_wp2
  go_ret
  exact ⟨rfl, HB2.out⟩
end
/-- A message's bytes: an OPEN with that body. -/
def msgB (bd : List Nat) : List Nat := ff16 ++ [(19 + bd.length) / 256, (19 + bd.length) % 256, 1] ++ bd
/-- An OPEN's bytes. -/
def openM (a h : Int) (i : Nat) (c : Cp) : List Nat := msgB (openB a h i c)
theorem openB_length (a h : Int) (i : Nat) (c : Cp) : (openB a h i c).length = 10 + (encCp c).length := by
  unfold openB
  simp [by4]
  omega
theorem by4_lt2 (i : Nat) : ∀ x ∈ by4 i, x < 256 := by4_lt i
theorem openB_lt (a h : Int) (i : Nat) (c : Cp) (hg : openG a h c = true) : ∀ x ∈ openB a h i c, x < 256 := by
  unfold openG at hg
  simp only [Bool.and_eq_true, decide_eq_true_eq] at hg
  obtain ⟨⟨⟨a1, a2⟩, h1, h2⟩, hc⟩ := hg
  have hs : as2 a < 65536 := by unfold as2; split <;> omega
  have hl := encCp_length c
  intro x hx
  unfold openB at hx
  simp only [List.mem_append, List.mem_cons, List.not_mem_nil, or_false] at hx
  rcases hx with ((((rfl | rfl | rfl | rfl | rfl) | hx) | rfl) | hx)
  · omega
  · omega
  · omega
  · omega
  · omega
  · exact by4_lt i x hx
  · omega
  · exact encCp_lt c x hx
theorem rmsg_open (a h : Int) (i : Nat) (c : Cp) (w : World) (hg : openG a h c = true) (hi : i < 4294967296) :
    Calls Tryz.prog 11 #[.agg (openMsg 1 (openZ a h i c))] w fun e w' => ∃ v, e = .returned v ∧ w'.ownsRow w.heap.size 5 1 v (openM a h i c).length (bcells (openM a h i c)) ∧ Below w.heap.size w w' := by
  have hlen : (openB a h i c).length ≤ 4077 := by rw [openB_length]; have := encCp_length c; omega
  have hlt := openB_lt a h i c hg
  have hbody := fun W => rbody_open a h i c W hg hi
  have hmc := MC.openMsg 1 (OC.z a h i c)
  have h0 : (openMsg 1 (openZ a h i c))[0]? = some (.int .i64 ((1 : Nat) : Int)) := by simp [openMsg, openZ]
  unfold openM
  generalize openMsg 1 (openZ a h i c) = O at *
  generalize openB a h i c = bd at *
  unfold msgB
  refine rmsg_any 1 O bd bd.length w hmc h0 (by decide) rfl hlen (fun o => ?_)
  refine (hbody (w.alloc o)).mono ?_
  rintro e w' ⟨v, rfl, ho, hb⟩
  obtain ⟨ab, cb, rfl, _, hr⟩ := own_brd ho (by omega) hlt
  exact ⟨ab, cb, rfl, hr, hb⟩
theorem rmsg_bad (a h : Int) (i : Nat) (c : Cp) (w : World) (hg : openG a h c = false) :
    Calls Tryz.prog 11 #[.agg (openMsg 1 (openZ a h i c))] w fun e w' => e = .returned (.slice none 0 0) ∧ Below w.heap.size w w' :=
  rmsg_none _ w (MC.openMsg 1 (OC.z a h i c)) (fun o => rbody_bad a h i c (w.alloc o) hg)
/-! ### What the bytes are when some are turned -/
theorem msgB_length (bd : List Nat) : (msgB bd).length = 19 + bd.length := by
  unfold msgB
  simp [ff16]
  omega
theorem msgB_drop (bd : List Nat) : (msgB bd).drop 19 = bd := by
  unfold msgB
  exact List.drop_left' (by simp [ff16])
theorem msgB_set (bd : List Nat) (j x : Nat) : (msgB bd).set (19 + j) x = msgB (bd.set j x) := by
  unfold msgB
  rw [List.length_set, List.set_append_right _ _ (by simp [ff16])]
  congr 2
  simp [ff16]
theorem msgB_lt {bd : List Nat} (h : ∀ x ∈ bd, x < 256) (hl : bd.length ≤ 4077) : ∀ x ∈ msgB bd, x < 256 := by
  intro x hx
  unfold msgB at hx
  simp only [List.mem_append, List.mem_cons, List.not_mem_nil, or_false, ff16, List.mem_replicate] at hx
  rcases hx with (⟨_, rfl⟩ | rfl | rfl | rfl) | hx
  · omega
  · omega
  · omega
  · omega
  · exact h x hx
theorem msgB_kind (bd : List Nat) : (msgB bd).getD 18 0 = 1 := by
  unfold msgB
  simp [ff16, List.getD_eq_getElem?_getD]
theorem msgB_head {bd : List Nat} (h : 10 ≤ bd.length) (hl : bd.length ≤ 4077) : headM (msgB bd) = (19 + bd.length, 0, 0, []) := by
  have h16 : (msgB bd).take 16 = List.replicate 16 255 := by
    unfold msgB
    rw [List.append_assoc, List.take_append_of_le_length (by simp [ff16])]
    simp [ff16]
  have hk : hdKind (msgB bd) = 1 := msgB_kind bd
  have hs : hdSize (msgB bd) = 19 + bd.length := by
    have e1 : (msgB bd).getD 16 0 = (19 + bd.length) / 256 := by unfold msgB; simp [ff16, List.getD_eq_getElem?_getD]
    have e2 : (msgB bd).getD 17 0 = (19 + bd.length) % 256 := by unfold msgB; simp [ff16, List.getD_eq_getElem?_getD]
    unfold hdSize
    rw [e1, e2]
    omega
  rw [headM_good (by rw [msgB_length]; omega) (by rw [h16]; simp) (by rw [hs]; omega) (by rw [hk]; omega) (by rw [hk, hs]; simp [leastOf, mostOf]; omega), hs]
/-- The Note that Decode answers. -/
def noteR : (Nat × Nat × List Nat) ⊕ (Int × Nat × Nat × Cp) → Nat × Nat × List Nat
  | .inl x => x
  | .inr _ => (0, 0, [])
theorem openR_bd (v p q h1 h2 b0 b1 b2 b3 l : Nat) (c : Cp) (hc : goodC c = true) : noteR (openR (v :: p :: q :: h1 :: h2 :: b0 :: b1 :: b2 :: b3 :: l :: encCp c)) = if v ≠ 4 then (2, 1, [0, 4]) else if l ≠ (encCp c).length then (2, 0, []) else if asB (p * 256 + q) c then (0, 0, []) else (2, 2, []) := by
  unfold openR
  have e0 : (v :: p :: q :: h1 :: h2 :: b0 :: b1 :: b2 :: b3 :: l :: encCp c).getD 0 0 = v := rfl
  have e9 : (v :: p :: q :: h1 :: h2 :: b0 :: b1 :: b2 :: b3 :: l :: encCp c).getD 9 0 = l := rfl
  have el : (v :: p :: q :: h1 :: h2 :: b0 :: b1 :: b2 :: b3 :: l :: encCp c).length - 10 = (encCp c).length := by simp
  have ed : (v :: p :: q :: h1 :: h2 :: b0 :: b1 :: b2 :: b3 :: l :: encCp c).drop 10 = encCp c := rfl
  have en : numB (((v :: p :: q :: h1 :: h2 :: b0 :: b1 :: b2 :: b3 :: l :: encCp c).drop 1).take 2) = p * 256 + q := by show numB [p, q] = _; simp [numB]
  rw [e0, e9, el, ed, en, readC_back c hc]
  by_cases hv : v ≠ 4
  · rw [if_pos hv, if_pos hv]; rfl
  · rw [if_neg hv, if_neg hv]
    by_cases hl : l ≠ (encCp c).length
    · rw [if_pos hl, if_pos hl]; rfl
    · rw [if_neg hl, if_neg hl]
      simp only
      by_cases hz : asB (p * 256 + q) c = true
      · rw [if_pos hz, if_pos hz]; rfl
      · rw [if_neg hz, if_neg hz]; rfl
theorem openB_eq (a h : Int) (i : Nat) (c : Cp) : openB a h i c = 4 :: (as2 a / 256) :: (as2 a % 256) :: (h.toNat / 256) :: (h.toNat % 256) :: (i / 16777216 % 256) :: (i / 65536 % 256) :: (i / 256 % 256) :: (i % 256) :: (encCp c).length :: encCp c := by
  unfold openB
  rw [by4_eq]
  rfl
theorem asB_own (a : Int) (c : Cp) (hf : c.four = true) (ha : a = c.as4) (h1 : 1 ≤ a) : asB (as2 a) c = true := by
  unfold asB as2
  rw [hf]
  subst ha
  by_cases h : c.as4 ≤ 65535
  · rw [if_pos h]
    have e : ((c.as4.toNat : Nat) : Int) = c.as4 := by omega
    simp [e]
    omega
  · rw [if_neg h]
    simp
theorem open_one (a h : Int) (i : Nat) (c : Cp) (v : Nat) (hg : openG a h c = true) (hf : c.four = true) (ha : a = c.as4) : noteR (openR ((openB a h i c).set 0 v)) = if v = 4 then (0, 0, []) else (2, 1, [0, 4]) := by
  have hg2 := hg
  unfold openG at hg2
  simp only [Bool.and_eq_true, decide_eq_true_eq] at hg2
  rw [openB_eq]
  show noteR (openR (v :: _ :: _ :: _ :: _ :: _ :: _ :: _ :: _ :: _ :: encCp c)) = _
  rw [openR_bd _ _ _ _ _ _ _ _ _ _ c hg2.2]
  by_cases hv : v = 4
  · rw [if_neg (by omega), if_neg (by omega), show as2 a / 256 * 256 + as2 a % 256 = as2 a from by omega, asB_own a c hf ha hg2.1.1.1, if_pos rfl, if_pos hv]
  · rw [if_pos hv, if_neg hv]
theorem open_two (a h : Int) (i : Nat) (c : Cp) (y : Nat) (hg : openG a h c = true) : noteR (openR (((openB a h i c).set 1 (y / 256)).set 2 (y % 256))) = if asB y c then (0, 0, []) else (2, 2, []) := by
  have hg2 := hg
  unfold openG at hg2
  simp only [Bool.and_eq_true, decide_eq_true_eq] at hg2
  rw [openB_eq]
  show noteR (openR (_ :: (y / 256) :: (y % 256) :: _ :: _ :: _ :: _ :: _ :: _ :: _ :: encCp c)) = _
  rw [openR_bd _ _ _ _ _ _ _ _ _ _ c hg2.2, if_neg (by omega), if_neg (by omega), show y / 256 * 256 + y % 256 = y from by omega]
theorem open_three (a h : Int) (i : Nat) (c : Cp) (l : Nat) (hg : openG a h c = true) (hl : l ≠ (encCp c).length) : noteR (openR ((openB a h i c).set 9 l)) = (2, 0, []) := by
  have hg2 := hg
  unfold openG at hg2
  simp only [Bool.and_eq_true, decide_eq_true_eq] at hg2
  rw [openB_eq]
  show noteR (openR (_ :: _ :: _ :: _ :: _ :: _ :: _ :: _ :: _ :: l :: encCp c)) = _
  rw [openR_bd _ _ _ _ _ _ _ _ _ _ c hg2.2, if_neg (by omega), if_pos hl]
theorem do_note {w w' : World} {e : Ending} {r : (Nat × Nat × List Nat) ⊕ (Int × Nat × Nat × Cp)} (h : DoIs w w' e r) {k s : Nat} {d : List Nat} (hr : noteR r = (k, s, d)) : ∃ C a c, MC C ∧ e = .returned (.tuple #[.agg C, .agg #[.int .i64 (k : Int), .int .i64 (s : Int), .slice a d.length c]]) ∧ w'.ownsRow w.heap.size 5 1 (.slice a d.length c) d.length (bcells d) := by
  cases r with
  | inl x =>
    obtain ⟨k', s', d'⟩ := x
    cases hr
    obtain ⟨u, h1, a, c, rfl, h2⟩ := h
    exact ⟨zM, a, c, MC.zero, h1, h2⟩
  | inr x =>
    obtain ⟨a, h9, i, c⟩ := x
    cases hr
    exact ⟨_, none, 0, MC.openMsg 1 (OC.made _ _ _ _), h, own_nil _ _ _ _⟩
end Go.Proofs.YtkmfnafecdfedaaGreatDoor
