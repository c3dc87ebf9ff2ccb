/- Capabilities under way in their box; the program's readFour. -/
import Derived.Test.YtkmfnafecdfedaaGreatDoorCpN
import Derived.Test.YtkmfnafecdfedaaGreatDoorCpG
import Derived.Test.YtkmfnafecdfedaaGreatDoorBrd2
namespace Go.Proofs.YtkmfnafecdfedaaGreatDoor
open Go.RowKit
set_option maxRecDepth 100000

/-- The box at block X holds c, and may be written. -/
structure CBox (w : World) (X : Nat) (c : Cp) : Prop where
  cells : BoxC w X c
  free : ∀ j, w.frozen? ⟨X, j, none⟩ = false
theorem CBox.size {w : World} {X : Nat} {c : Cp} (h : CBox w X c) : X < w.heap.size := h.cells.size
theorem CBox.block {w w' : World} {X : Nat} {c : Cp} (h : CBox w X c) (hb : w'.heap[X]? = w.heap[X]?) : CBox w' X c :=
  ⟨h.cells.block hb, fun j => by rw [World.frozen?_of_block hb]; exact h.free j⟩
theorem CBox.later {w w' : World} {X : Nat} {c : Cp} (h : CBox w X c) (hb : Below w.heap.size w w') : CBox w' X c := h.block (hb.block X h.size)
/-- What reading leaves. -/
def Took (X : Nat) (r : Option Cp) (e : Ending) (w : World) : Prop := match r with
  | none => e = .returned (.bool false)
  | some c => e = .returned (.bool true) ∧ CBox w X c
theorem took_no (X : Nat) (r : Option Cp) (w : World) (h : r = none) : Took X r (.returned (.bool false)) w := by rw [h]; rfl
theorem took_go {X : Nat} {r : Option Cp} {w : World} {c : Cp} (h : r = some c) (hb : CBox w X c) : Took X r (.returned (.bool true)) w := by rw [h]; exact ⟨rfl, hb⟩
/-- The cells of a box, one by one. -/
theorem box_set (w : World) (X k : Nat) (u : Value) (j : Nat) (v : Value) (hj : w.cell? ⟨X, j, none⟩ = some v) : (w.setCell ⟨X, k, none⟩ u).cell? ⟨X, j, none⟩ = some (if k = j then u else v) := by
  by_cases e : k = j
  · subst e
    rw [if_pos rfl]
    exact World.cell?_setCell_same _ _ _ hj
  · rw [if_neg e, World.cell?_setCell_other _ _ _ _ (by intro e9; injection e9 with _ e2 _; exact e e2)]
    exact hj
set_option maxHeartbeats 1600000 in
theorem rfour_any (X : Nat) (c : Cp) (a : Option Addr) (cap : Nat) (bs : List Nat) (w : World) (hx : CBox w X c) (hr : BRd w a bs) :
    Calls Tryz.prog 87 #[.pointer (some ⟨X, 0, none⟩), .slice a bs.length cap] w fun e w' => Took X (readOne 65 bs c) e w' ∧ Keeps (fun b => b = X) w w' := by
  have e65 : readOne 65 bs c = if bs.length = 4 ∧ numB bs ≠ 0 then some (putFour bs c) else none := by unfold readOne; rw [if_pos rfl]
  by_cases h4 : bs.length = 4
  · obtain ⟨b, o, rfl, hc⟩ := hr.1.2 (by omega)
    have HN := hide (numof_any b o 4 cap bs w h4 (by omega) hr.2 (fun i hi => hc i (by omega)))
    have hlt : numB bs < 4294967296 := by have := numB_lt bs hr.2; rw [h4] at this; simpa using this
    have HF := hide (fun W => isFour_any (putFour bs c) W)
    have hg : gFour (putFour bs c) = decide (numB bs ≠ 0) := by
      show (if true then decide _ else decide _) = _
      rw [if_pos rfl]
      show decide ((1 : Int) ≤ (numB bs : Int) ∧ (numB bs : Int) ≤ 4294967295) = _
      rw [Bool.eq_iff_iff, decide_eq_true_iff, decide_eq_true_iff]
      omega
    rw [hg] at HF
    have HE : Hid (readOne 65 bs c = if numB bs ≠ 0 then some (putFour bs c) else none) := by
      show _ = _
      rw [e65]
      by_cases h : numB bs ≠ 0
      · rw [if_pos ⟨h4, h⟩, if_pos h]
      · rw [if_neg (fun h9 => h h9.2), if_neg h]
    have HX := hide hx
    have hXs := hx.size
    obtain ⟨x0, x1, x2, x3, x4, x5, x6, x7, x8⟩ := hx.cells
    have f0 := hx.free 0
    have f1 := hx.free 1
    generalize readOne 65 bs c = ro at *
    have HB : Hid (∀ W, Below ((w.setCell ⟨X, 0, none⟩ (.bool true)).setCell ⟨X, 1, none⟩ (.int .i64 (numB bs : Int))).heap.size ((w.setCell ⟨X, 0, none⟩ (.bool true)).setCell ⟨X, 1, none⟩ (.int .i64 (numB bs : Int))) W → CBox W X (putFour bs c) ∧ Keeps (fun b => b = X) w W) := fun W hb => by
      have k : ∀ j v, w.cell? ⟨X, j, none⟩ = some v → ((w.setCell ⟨X, 0, none⟩ (.bool true)).setCell ⟨X, 1, none⟩ (.int .i64 (numB bs : Int))).cell? ⟨X, j, none⟩ = some (if 1 = j then .int .i64 (numB bs : Int) else if 0 = j then .bool true else v) := fun j v h => box_set _ X 1 _ j _ (box_set _ X 0 _ j _ h)
      refine ⟨CBox.later ⟨⟨k 0 _ x0, k 1 _ x1, k 2 _ x2, k 3 _ x3, k 4 _ x4, k 5 _ x5, k 6 _ x6, k 7 _ x7, k 8 _ x8⟩, fun j => by rw [World.frozen?_setCell, World.frozen?_setCell]; exact HX.out.free j⟩ hb, ?_⟩
      exact (((Keeps.refl (fun b => b = X) w).setCell X 0 _ (.inl rfl)).setCell X 1 _ (.inl rfl)).trans (Keeps.of_below hb _) (fun _ _ h => h)
    clear hr hc e65 hg hx
    rw [h4]
    obtain ⟨four, as4, gr, rs, tm, fam, fwd, ll, lt⟩ := c
    unfold putFour capV at HF
    simp only at *
    generalize numB bs = N at *
    clear h4
    go_enter Tryz.func87, Tryz.ntmps87
    go_wp2_with fail
    refine HN.out.mono ?_
    rintro e w1 ⟨rfl, rfl⟩
    go_wp2_with fail
    refine (HF.out _).mono ?_
    rintro e w2 ⟨rfl, hb2⟩
    obtain ⟨h8, h9⟩ := HB.out w2 hb2
    have HH8 := hide h8
    have HH9 := hide h9
    clear h8 h9 hb2
    go_wp2
    go_ret
    refine ⟨?_, HH9.out⟩
    show Took X ro (.returned (.bool (!decide (N = 0)))) w2
    rw [HE.out]
    by_cases h0 : N = 0
    · rw [if_neg (fun h => h h0), decide_eq_true h0]; rfl
    · rw [if_pos h0, decide_eq_false h0]; exact ⟨rfl, HH8.out⟩
  · have HE : Hid (readOne 65 bs c = none) := by show _ = _; rw [e65, if_neg (fun h => h4 h.1)]
    generalize readOne 65 bs c = ro at *
    clear hr hx e65
    generalize bs.length = n at *
    have h4i : ((n : Int) != 4) = true := by simp; omega
    clear h4
    go_enter Tryz.func87, Tryz.ntmps87
    go_wp2
    go_ret
    exact ⟨took_no _ _ _ HE.out, Keeps.refl _ _⟩
end Go.Proofs.YtkmfnafecdfedaaGreatDoor
/- The program's readGR and readLL. -/
namespace Go.Proofs.YtkmfnafecdfedaaGreatDoor
open Go.RowKit
set_option maxRecDepth 100000

theorem and_pow15 (N : Nat) : N &&& 32768 = if N.testBit 15 then 32768 else 0 := by
  have e : (32768 : Nat) = 2 ^ 15 := rfl
  apply Nat.eq_of_testBit_eq
  intro j
  rw [Nat.testBit_and]
  by_cases hj : j = 15
  · subst hj
    cases h : N.testBit 15 with
    | false => simp
    | true => simp
  · have h2 : Nat.testBit 32768 j = false := by rw [e]; exact Nat.testBit_two_pow_of_ne (Ne.symm hj)
    rw [h2, Bool.and_false]
    split
    · exact h2.symm
    · simp
theorem and_high (N : Nat) (h : N < 65536) : (bits .and .i64 (N : Int) 32768 != 0) = decide (128 ≤ N / 256) := by
  have e : bits .and .i64 (N : Int) 32768 = ((N &&& 32768 : Nat) : Int) := and64 N 32768 (by omega) (by omega)
  rw [e, and_pow15, Nat.testBit_eq_decide_div_mod_eq]
  simp only [Nat.reducePow]
  by_cases hb : N / 32768 % 2 = 1
  · rw [decide_eq_true hb, decide_eq_true (show 128 ≤ N / 256 by omega)]; rfl
  · rw [decide_eq_false hb, decide_eq_false (show ¬ 128 ≤ N / 256 by omega)]; rfl
theorem and_low (N : Nat) (h : N < 65536) : bits .and .i64 (N : Int) 4095 = ((N % 4096 : Nat) : Int) := by
  have e : bits .and .i64 (N : Int) 4095 = ((N &&& 4095 : Nat) : Int) := and64 N 4095 (by omega) (by omega)
  rw [e, show N &&& 4095 = N % 4096 from Nat.and_two_pow_sub_one_eq_mod N 12]
theorem and_128 (x : Nat) (h : x < 256) : (bits .and .u8 (x : Int) 128 != 0) = decide (128 ≤ x) := by
  have e : bits .and .u8 (x : Int) ((128 : Nat) : Int) = ((x &&& 128 : Nat) : Int) := (bits_nat .u8 8 (by decide) (fun n h0 h1 => by rw [IntKind.wrap_u8]; simp only [Int.reducePow] at h1; omega) _ _ (by simpa using h) (by decide)).1
  have e2 : bits .and .u8 (x : Int) 128 = ((x &&& 128 : Nat) : Int) := e
  rw [e2]
  have key : ∀ y : Fin 256, ((((y : Nat) &&& 128 : Nat) : Int) != 0) = decide (128 ≤ (y : Nat)) := by decide +kernel
  exact key ⟨x, h⟩
theorem numB_two (bs : List Nat) (h : 2 ≤ bs.length) : numB (bs.take 2) = bs.getD 0 0 * 256 + bs.getD 1 0 := by
  match bs, h with
  | a :: b :: _, _ => simp [numB]
/-- The world behind the first three stores. -/
def w3s (w : World) (X : Nat) (rs : Bool) (tm : Int) : World := ((w.setCell ⟨X, 2, none⟩ (.bool true)).setCell ⟨X, 3, none⟩ (.bool rs)).setCell ⟨X, 4, none⟩ (.int .i64 tm)
theorem w3s_keeps (w : World) (X : Nat) (rs : Bool) (tm : Int) : Keeps (fun b => b = X) w (w3s w X rs tm) :=
  (((Keeps.refl (fun b => b = X) w).setCell X 2 _ (.inl rfl)).setCell X 3 _ (.inl rfl)).setCell X 4 _ (.inl rfl)
theorem w3s_box {w : World} {X : Nat} {c : Cp} (h : CBox w X c) (rs : Bool) (tm : Int) : CBox (w3s w X rs tm) X { c with gr := true, rs := rs, tm := tm } := by
  obtain ⟨x0, x1, x2, x3, x4, x5, x6, x7, x8⟩ := h.cells
  have k : ∀ j v, w.cell? ⟨X, j, none⟩ = some v → (w3s w X rs tm).cell? ⟨X, j, none⟩ = some (if 4 = j then .int .i64 tm else if 3 = j then .bool rs else if 2 = j then .bool true else v) := fun j v h => box_set _ X 4 _ j _ (box_set _ X 3 _ j _ (box_set _ X 2 _ j _ h))
  exact ⟨⟨k 0 _ x0, k 1 _ x1, k 2 _ x2, k 3 _ x3, k 4 _ x4, k 5 _ x5, k 6 _ x6, k 7 _ x7, k 8 _ x8⟩, fun j => by unfold w3s; rw [World.frozen?_setCell, World.frozen?_setCell, World.frozen?_setCell]; exact h.free j⟩
theorem two_box {w : World} {X : Nat} {c : Cp} (h : CBox w X c) (fam fwd : Bool) : CBox ((w.setCell ⟨X, 5, none⟩ (.bool fam)).setCell ⟨X, 6, none⟩ (.bool fwd)) X { c with fam := fam, fwd := fwd } := by
  obtain ⟨x0, x1, x2, x3, x4, x5, x6, x7, x8⟩ := h.cells
  have k : ∀ j v, w.cell? ⟨X, j, none⟩ = some v → ((w.setCell ⟨X, 5, none⟩ (.bool fam)).setCell ⟨X, 6, none⟩ (.bool fwd)).cell? ⟨X, j, none⟩ = some (if 6 = j then .bool fwd else if 5 = j then .bool fam else v) := fun j v h => box_set _ X 6 _ j _ (box_set _ X 5 _ j _ h)
  exact ⟨⟨k 0 _ x0, k 1 _ x1, k 2 _ x2, k 3 _ x3, k 4 _ x4, k 5 _ x5, k 6 _ x6, k 7 _ x7, k 8 _ x8⟩, fun j => by rw [World.frozen?_setCell, World.frozen?_setCell]; exact h.free j⟩
set_option maxHeartbeats 1600000 in
theorem rgr_bad (X : Nat) (a : Option Addr) (n cap : Nat) (w : World) (h : n % 4 ≠ 2) (hl : n ≤ 10000) : Calls Tryz.prog 88 #[.pointer (some ⟨X, 0, none⟩), .slice a n cap] w fun e w' => e = .returned (.bool false) ∧ w' = w := by
  by_cases h2 : n < 2
  · have h2i : ((n : Int) < 2) := by omega
    clear h
    go_enter Tryz.func88, Tryz.ntmps88
    go_wp2
    go_ret
    exact ⟨rfl, rfl⟩
  · have h2i : decide ((n : Int) < 2) = false := decide_eq_false (by omega)
    obtain ⟨m, rfl⟩ : ∃ m, n = m + 2 := ⟨n - 2, by omega⟩
    have hm : ((m : Int) % 4 != 0) = true := by
      simp
      omega
    clear h h2
    go_enter Tryz.func88, Tryz.ntmps88
    go_wp2
    go_ret
    exact ⟨rfl, rfl⟩
set_option maxHeartbeats 3200000 in
theorem rgr_good (X : Nat) (c : Cp) (a : Option Addr) (cap : Nat) (bs : List Nat) (w : World) (hx : CBox w X c) (hr : BRd w a bs) (hne : ∀ x, a = some x → 0 < bs.length → x.block ≠ X) (hl : bs.length ≤ 10000) (hcap : bs.length ≤ cap) (h : bs.length % 4 = 2) :
    Calls Tryz.prog 88 #[.pointer (some ⟨X, 0, none⟩), .slice a bs.length cap] w fun e w' => Took X (some (putGR bs c)) e w' ∧ Keeps (fun b => b = X) w w' := by
  obtain ⟨b, o, rfl, hc⟩ := hr.1.2 (by omega)
  have hbX : b ≠ X := hne ⟨b, o, none⟩ rfl (by omega)
  obtain ⟨N, hN⟩ : ∃ N, N = numB (bs.take 2) := ⟨_, rfl⟩
  have hN2 := numB_two bs (by omega)
  rw [← hN] at hN2
  have g0 := getD_lt256 hr.2 0
  have g1 := getD_lt256 hr.2 1
  have hNlt : N < 65536 := by omega
  have HN := hide (numof_any b o 2 cap (bs.take 2) w (by rw [List.length_take]; omega) (by omega) (take_lt hr.2 2) (fun i hi => by
    have h9 : w.cell? ⟨b, o + i, none⟩ = some (.int .u8 (bs.getD i 0 : Int)) := hc i (by omega)
    rw [h9, List.getD_eq_getElem?_getD, List.getD_eq_getElem?_getD, List.getElem?_take_of_lt hi]))
  rw [← hN] at HN
  have hhi := and_high N hNlt
  have hlo := and_low N hNlt
  obtain ⟨R, hR⟩ : ∃ R, R = decide (128 ≤ N / 256) := ⟨_, rfl⟩
  obtain ⟨T, hT⟩ : ∃ T, T = N % 4096 := ⟨_, rfl⟩
  have hR2 : R = decide (128 ≤ bs.getD 0 0) := by rw [hR, hN2]; congr 1; rw [eq_iff_iff]; omega
  have hT2 : T = bs.getD 0 0 % 16 * 256 + bs.getD 1 0 := by rw [hT, hN2]; omega
  rw [← hR] at hhi
  rw [← hT] at hlo
  have HP : Hid (∀ fam fwd, fam = (fstU 4 (bs.drop 2)).isSome → fwd = fwdOf (fstU 4 (bs.drop 2)) → ({ ({ c with gr := true, rs := R, tm := (T : Int) } : Cp) with fam := fam, fwd := fwd } : Cp) = putGR bs c) := fun fam fwd h1 h2 => by
    subst h1 h2
    rw [hR2, hT2]; rfl
  have HK3 := hide (w3s_keeps w X R (T : Int))
  have HX3 := hide (w3s_box hx R (T : Int))
  have hr3 : BRd (w3s w X R (T : Int)) (some ⟨b, o, none⟩) bs := hr.keeps HK3.out (fun x e _ => by cases e; exact hbX)
  have hdl : (bs.drop 2).length = bs.length - 2 := List.length_drop ..
  have HF : Hid (∀ a2 c2, (a2 = some ⟨b, o, none⟩ ∧ cap = 2 ∧ c2 = 0 ∨ a2 = some ⟨b, o + 2, none⟩ ∧ c2 = cap - 2) → Calls Tryz.prog 120 #[.slice a2 (bs.length - 2) c2, .int .i64 4] (w3s w X R (T : Int)) fun e w' => UniRes (w3s w X R (T : Int)) X 4 (fstU 4 (bs.drop 2)) e ∧ w' = w3s w X R (T : Int)) := fun a2 c2 hh => by
    have h1 := fstu_any X a2 c2 (bs.drop 2) 4 (w3s w X R (T : Int)) (by omega) (by omega) (by omega) (by omega) ?_ ?_
    · rw [hdl] at h1; exact h1
    · rcases hh with ⟨rfl, h2, rfl⟩ | ⟨rfl, rfl⟩
      · have h0 : bs.drop 2 = [] := List.drop_eq_nil_of_le (by omega)
        rw [h0]
        exact ⟨Rw.nil _ _ _, by simp⟩
      · refine ⟨⟨by unfold maxLen; omega, fun hp => ⟨b, o + 2, rfl, fun i hi => ?_⟩⟩, fun x hx => hr.2 x (List.mem_of_mem_drop hx)⟩
        have h9 : (w3s w X R (T : Int)).cell? ⟨b, o + (2 + i), none⟩ = some (.int .u8 (bs.getD (2 + i) 0 : Int)) := by
          obtain ⟨b9, o9, e9, h8⟩ := hr3.1.2 (by omega)
          cases e9
          exact h8 (2 + i) (by omega)
        rw [← Nat.add_assoc] at h9
        show _ = some (Value.int .u8 (((bs.drop 2).getD i 0 : Nat) : Int))
        rw [h9, List.getD_eq_getElem?_getD, List.getD_eq_getElem?_getD, List.getElem?_drop]
    · intro x hx _
      rcases hh with ⟨rfl, _, _⟩ | ⟨rfl, _⟩ <;> (cases hx; exact hbX)
  have HX := hide hx
  have hXs := hx.size
  have hbs := World.block_lt_of_cell? w _ (hc 0 (by omega))
  simp only at hbs
  obtain ⟨x0, x1, x2, x3, x4, x5, x6, x7, x8⟩ := hx.cells
  have f2 := hx.free 2
  have f3 := hx.free 3
  have f4 := hx.free 4
  have f5 := hx.free 5
  have f6 := hx.free 6
  generalize putGR bs c = pc at *
  generalize hfu0 : fstU 4 (bs.drop 2) = fu at *
  obtain ⟨m, hm⟩ : ∃ m, bs.length = m + 2 := ⟨bs.length - 2, by omega⟩
  rw [hm] at HF hcap hl h
  rw [hm]
  simp only [Nat.add_sub_cancel] at HF
  have hmi : ((m : Int) % 4 != 0) = false := by simp; omega
  clear hne hr3 hr hc hR hT hR2 hT2 hx g0 g1 hN hN2 hdl hm hfu0 h
  obtain ⟨four, as4, gr, rs, tm, fam, fwd, ll, lt⟩ := c
  simp only at *
  by_cases hc2 : cap = 2
  · have HF1 := hide (HF.out (some ⟨b, o, none⟩) 0 (.inl ⟨rfl, hc2, rfl⟩))
    have hm0 : m = 0 := by omega
    subst hm0
    subst hc2
    clear HF
    unfold w3s at *
    go_enter Tryz.func88, Tryz.ntmps88
    go_wp2_with fail
    refine HN.out.mono ?_
    rintro e w1 ⟨rfl, rfl⟩
    go_wp2_with fail
    refine HF1.out.mono ?_
    rintro e w2 ⟨hu, hw2⟩
    rw [← hw2] at HX3 HK3 hu
    clear hw2 x0 x1 x2 x3 x4 x5 x6 x7 x8 f2 f3 f4 f5 f6 HF1 HN HX
    have hXs2 := HX3.out.size
    obtain ⟨x0, x1, x2, x3, x4, x5, x6, x7, x8⟩ := HX3.out.cells
    have f5 := HX3.out.free 5
    have f6 := HX3.out.free 6
    simp only at x0 x1 x2 x3 x4 x5 x6 x7 x8
    cases fu with
    | none =>
      obtain rfl : e = _ := hu
      have HB := hide (two_box HX3.out false false)
      have HQ := hide (HP.out false false rfl rfl)
      go_wp2
      go_ret
      refine ⟨took_go rfl ?_, (HK3.out.setCell X 5 _ (.inl rfl)).setCell X 6 _ (.inl rfl)⟩
      rw [← HQ.out]; exact HB.out
    | some u =>
      obtain ⟨b2, o2, k2, rfl, hb2, hk2, hu4, hu256, hcu⟩ := hu
      have y3 := hcu 3 (by omega)
      have h128 := and_128 (u.getD 3 0) (getD_lt256 hu256 3)
      have HB := hide (two_box HX3.out true (decide (128 ≤ u.getD 3 0)))
      have HQ := hide (HP.out true (decide (128 ≤ u.getD 3 0)) rfl rfl)
      obtain ⟨F, hF⟩ : ∃ F, F = decide (128 ≤ u.getD 3 0) := ⟨_, rfl⟩
      rw [← hF] at h128 HB HQ
      generalize u.getD 3 0 = z at *
      have z3 : (w2.setCell ⟨X, 5, none⟩ (.bool true)).cell? ⟨b2, o2 + 3, none⟩ = some (.int .u8 (z : Int)) := by
        rw [World.cell?_setCell_other _ _ _ _ (by intro e9; injection e9 with e2 _ _; exact hb2 e2.symm)]
        exact y3
      have hz2 : b2 < w2.heap.size := by have := World.block_lt_of_cell? w2 _ y3; simpa using this
      clear hF hu4 hu256 hcu
      go_wp2
      go_ret
      refine ⟨took_go rfl ?_, (HK3.out.setCell X 5 _ (.inl rfl)).setCell X 6 _ (.inl rfl)⟩
      rw [← HQ.out]; exact HB.out
  · have HF1 := hide (HF.out (some ⟨b, o + 2, none⟩) (cap - 2) (.inr ⟨rfl, rfl⟩))
    clear HF
    unfold w3s at *
    go_enter Tryz.func88, Tryz.ntmps88
    go_wp2_with fail
    refine HN.out.mono ?_
    rintro e w1 ⟨rfl, rfl⟩
    go_wp2_with fail
    refine HF1.out.mono ?_
    rintro e w2 ⟨hu, hw2⟩
    rw [← hw2] at HX3 HK3 hu
    clear hw2 x0 x1 x2 x3 x4 x5 x6 x7 x8 f2 f3 f4 f5 f6 HF1 HN HX
    have hXs2 := HX3.out.size
    obtain ⟨x0, x1, x2, x3, x4, x5, x6, x7, x8⟩ := HX3.out.cells
    have f5 := HX3.out.free 5
    have f6 := HX3.out.free 6
    simp only at x0 x1 x2 x3 x4 x5 x6 x7 x8
    cases fu with
    | none =>
      obtain rfl : e = _ := hu
      have HB := hide (two_box HX3.out false false)
      have HQ := hide (HP.out false false rfl rfl)
      go_wp2
      go_ret
      refine ⟨took_go rfl ?_, (HK3.out.setCell X 5 _ (.inl rfl)).setCell X 6 _ (.inl rfl)⟩
      rw [← HQ.out]; exact HB.out
    | some u =>
      obtain ⟨b2, o2, k2, rfl, hb2, hk2, hu4, hu256, hcu⟩ := hu
      have y3 := hcu 3 (by omega)
      have h128 := and_128 (u.getD 3 0) (getD_lt256 hu256 3)
      have HB := hide (two_box HX3.out true (decide (128 ≤ u.getD 3 0)))
      have HQ := hide (HP.out true (decide (128 ≤ u.getD 3 0)) rfl rfl)
      obtain ⟨F, hF⟩ : ∃ F, F = decide (128 ≤ u.getD 3 0) := ⟨_, rfl⟩
      rw [← hF] at h128 HB HQ
      generalize u.getD 3 0 = z at *
      have z3 : (w2.setCell ⟨X, 5, none⟩ (.bool true)).cell? ⟨b2, o2 + 3, none⟩ = some (.int .u8 (z : Int)) := by
        rw [World.cell?_setCell_other _ _ _ _ (by intro e9; injection e9 with e2 _ _; exact hb2 e2.symm)]
        exact y3
      have hz2 : b2 < w2.heap.size := by have := World.block_lt_of_cell? w2 _ y3; simpa using this
      clear hF hu4 hu256 hcu
      go_wp2
      go_ret
      refine ⟨took_go rfl ?_, (HK3.out.setCell X 5 _ (.inl rfl)).setCell X 6 _ (.inl rfl)⟩
      rw [← HQ.out]; exact HB.out
theorem rgr_any (X : Nat) (c : Cp) (a : Option Addr) (cap : Nat) (bs : List Nat) (w : World) (hx : CBox w X c) (hr : BRd w a bs) (hne : ∀ x, a = some x → 0 < bs.length → x.block ≠ X) (hl : bs.length ≤ 10000) (hcap : bs.length ≤ cap) :
    Calls Tryz.prog 88 #[.pointer (some ⟨X, 0, none⟩), .slice a bs.length cap] w fun e w' => Took X (readOne 64 bs c) e w' ∧ Keeps (fun b => b = X) w w' := by
  have e64 : readOne 64 bs c = if bs.length % 4 = 2 then some (putGR bs c) else none := by unfold readOne; rw [if_neg (by omega), if_pos rfl]
  rw [e64]
  by_cases h : bs.length % 4 = 2
  · rw [if_pos h]; exact rgr_good X c a cap bs w hx hr hne hl hcap h
  · rw [if_neg h]
    refine (rgr_bad X a bs.length cap w h hl).mono fun e w' ⟨h1, h2⟩ => ⟨?_, by rw [h2]; exact Keeps.refl _ _⟩
    rw [h1]; rfl
end Go.Proofs.YtkmfnafecdfedaaGreatDoor
