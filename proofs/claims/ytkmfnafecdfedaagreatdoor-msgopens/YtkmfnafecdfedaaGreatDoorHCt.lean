/- The program's readLL, and what takes a capability. -/
import Derived.Test.YtkmfnafecdfedaaGreatDoorHCr
import Derived.Deep.QuietTactic
import Derived.BigQuiet
import Derived.Deep.RegionHeld3
namespace Go.Proofs.YtkmfnafecdfedaaGreatDoor
open Go.RowKit
set_option maxRecDepth 100000

theorem ll_box {w : World} {X : Nat} {c : Cp} (h : CBox w X c) (ll : Bool) (lt : Int) : CBox ((w.setCell ⟨X, 7, none⟩ (.bool ll)).setCell ⟨X, 8, none⟩ (.int .i64 lt)) X { c with ll := ll, lt := lt } := by
  obtain ⟨x0, x1, x2, x3, x4, x5, x6, x7, x8⟩ := h.cells
  have k : ∀ j v, w.cell? ⟨X, j, none⟩ = some v → ((w.setCell ⟨X, 7, none⟩ (.bool ll)).setCell ⟨X, 8, none⟩ (.int .i64 lt)).cell? ⟨X, j, none⟩ = some (if 8 = j then .int .i64 lt else if 7 = j then .bool ll else v) := fun j v h => box_set _ X 8 _ j _ (box_set _ X 7 _ j _ h)
  exact ⟨⟨k 0 _ x0, k 1 _ x1, k 2 _ x2, k 3 _ x3, k 4 _ x4, k 5 _ x5, k 6 _ x6, k 7 _ x7, k 8 _ x8⟩, fun j => by rw [World.frozen?_setCell, World.frozen?_setCell]; exact h.free j⟩
theorem lt_box {w : World} {X : Nat} {c : Cp} (h : CBox w X c) (lt : Int) : CBox (w.setCell ⟨X, 8, none⟩ (.int .i64 lt)) X { c with lt := lt } := by
  obtain ⟨x0, x1, x2, x3, x4, x5, x6, x7, x8⟩ := h.cells
  have k : ∀ j v, w.cell? ⟨X, j, none⟩ = some v → (w.setCell ⟨X, 8, none⟩ (.int .i64 lt)).cell? ⟨X, j, none⟩ = some (if 8 = j then .int .i64 lt else v) := fun j v h => box_set _ X 8 _ j _ h
  exact ⟨⟨k 0 _ x0, k 1 _ x1, k 2 _ x2, k 3 _ x3, k 4 _ x4, k 5 _ x5, k 6 _ x6, k 7 _ x7, k 8 _ x8⟩, fun j => by rw [World.frozen?_setCell]; exact h.free j⟩
theorem numB_three {u : List Nat} (h : u.length = 7) : numB (u.drop 4) = ltCp (some u) := by
  match u, h with
  | [a0, a1, a2, a3, a4, a5, a6], _ =>
    simp only [ltCp, List.drop_succ_cons, List.drop_zero, numB, List.foldl_cons, List.foldl_nil, List.getD_cons_succ, List.getD_cons_zero]
    omega
set_option maxHeartbeats 1600000 in
theorem rll_bad (X : Nat) (a : Option Addr) (n cap : Nat) (w : World) (h : n % 7 ≠ 0) (hl : n ≤ 10000) : Calls Tryz.prog 89 #[.pointer (some ⟨X, 0, none⟩), .slice a n cap] w fun e w' => e = .returned (.bool false) ∧ w' = w := by
  have hm : ((n : Int) % 7 != 0) = true := by
    simp
    omega
  clear h
  go_enter Tryz.func89, Tryz.ntmps89
  go_wp2
  go_ret
  exact ⟨rfl, rfl⟩
set_option maxHeartbeats 3200000 in
theorem rll_good (X : Nat) (c : Cp) (a : Option Addr) (cap : Nat) (bs : List Nat) (w : World) (hx : CBox w X c) (hr : BRd w a bs) (hne : ∀ x, a = some x → 0 < bs.length → x.block ≠ X) (hl : bs.length ≤ 10000) (hcap : bs.length ≤ cap) (h : bs.length % 7 = 0) :
    Calls Tryz.prog 89 #[.pointer (some ⟨X, 0, none⟩), .slice a bs.length cap] w fun e w' => Took X (some (putLL bs c)) e w' ∧ Keeps (fun b => b = X) w w' := by
  have HF := hide (fstu_any X a cap bs 7 w (by omega) (by omega) hl hcap hr hne)
  have HP : Hid (∀ ll lt, ll = (fstU 7 bs).isSome → lt = (ltCp (fstU 7 bs) : Int) → ({ c with ll := ll, lt := lt } : Cp) = putLL bs c) := fun ll lt h1 h2 => by
    subst h1 h2
    rfl
  have HX := hide hx
  have hXs := hx.size
  obtain ⟨x0, x1, x2, x3, x4, x5, x6, x7, x8⟩ := hx.cells
  have f7 := hx.free 7
  have f8 := hx.free 8
  generalize putLL bs c = pc at *
  generalize fstU 7 bs = fu at *
  have hmi : ((bs.length : Int) % 7 != 0) = false := by simp; omega
  clear hne hr hx h
  generalize bs.length = n at *
  obtain ⟨four, as4, gr, rs, tm, fam, fwd, ll, lt⟩ := c
  simp only at *
  go_enter Tryz.func89, Tryz.ntmps89
  go_wp2_with fail
  refine HF.out.mono ?_
  rintro e w1 ⟨hu, rfl⟩
  have HK := hide (((Keeps.refl (fun b => b = X) w1).setCell X 7 (.bool fu.isSome) (.inl rfl)).setCell X 8 (.int .i64 0) (.inl rfl))
  have HB := hide (ll_box HX.out fu.isSome 0)
  cases fu with
  | none =>
    obtain rfl : e = _ := hu
    have HQ := hide (HP.out false 0 rfl rfl)
    go_wp2
    go_ret
    refine ⟨took_go rfl ?_, HK.out⟩
    rw [← HQ.out]; exact HB.out
  | some u =>
    obtain ⟨b2, o2, k2, rfl, hb2, hk2, hu7, hu256, hcu⟩ := hu
    have HQ := hide (HP.out true (ltCp (some u) : Int) rfl rfl)
    have HN : Hid (Calls Tryz.prog 118 #[.slice (some ⟨b2, o2 + 4, none⟩) 3 (k2 - 4)] ((w1.setCell ⟨X, 7, none⟩ (.bool true)).setCell ⟨X, 8, none⟩ (.int .i64 0)) fun e w' => e = .returned (.int .i64 (numB (u.drop 4) : Int)) ∧ w' = (w1.setCell ⟨X, 7, none⟩ (.bool true)).setCell ⟨X, 8, none⟩ (.int .i64 0)) :=
      numof_any b2 (o2 + 4) 3 (k2 - 4) (u.drop 4) _ (by rw [List.length_drop]; omega) (by omega) (fun x hx => hu256 x (List.mem_of_mem_drop hx)) (fun i hi => by
        have h9 := hcu (4 + i) (by omega)
        rw [World.cell?_setCell_other _ _ _ _ (by intro e9; injection e9 with e2 _ _; exact hb2 e2.symm), World.cell?_setCell_other _ _ _ _ (by intro e9; injection e9 with e2 _ _; exact hb2 e2.symm), Nat.add_assoc, h9, List.getD_eq_getElem?_getD, List.getD_eq_getElem?_getD, List.getElem?_drop])
    rw [numB_three hu7] at HN
    have hk4 : ¬ k2 = 4 := by omega
    have hk7 : (7 : Int) ≤ (k2 : Int) := by omega
    rw [show (some u).isSome = true from rfl] at HB HK
    have HB3 := hide (lt_box HB.out (ltCp (some u) : Int))
    generalize ltCp (some u) = L at *
    clear hu256 hcu hu7
    go_wp2_with fail
    refine HN.out.mono ?_
    rintro e w2 ⟨rfl, hw2⟩
    rw [← hw2] at HB3
    have HK2 : Hid (Keeps (fun b => b = X) w1 w2) := by rw [hw2]; exact HK.out
    have HB2 : Hid (CBox w2 X { four := four, as4 := as4, gr := gr, rs := rs, tm := tm, fam := fam, fwd := fwd, ll := true, lt := 0 }) := by rw [hw2]; exact HB.out
    clear hw2 x0 x1 x2 x3 x4 x5 x6 x7 x8 f7 f8
    obtain ⟨x0, x1, x2, x3, x4, x5, x6, x7, x8⟩ := HB2.out.cells
    have f8 := HB2.out.free 8
    have hXs2 := HB2.out.size
    simp only at x0 x1 x2 x3 x4 x5 x6 x7 x8
    go_wp2
    go_ret
    refine ⟨took_go rfl ?_, HK2.out.setCell X 8 _ (.inl rfl)⟩
    rw [← HQ.out]; exact HB3.out
theorem rll_any (X : Nat) (c : Cp) (a : Option Addr) (cap : Nat) (bs : List Nat) (w : World) (hx : CBox w X c) (hr : BRd w a bs) (hne : ∀ x, a = some x → 0 < bs.length → x.block ≠ X) (hl : bs.length ≤ 10000) (hcap : bs.length ≤ cap) :
    Calls Tryz.prog 89 #[.pointer (some ⟨X, 0, none⟩), .slice a bs.length cap] w fun e w' => Took X (readOne 71 bs c) e w' ∧ Keeps (fun b => b = X) w w' := by
  have e71 : readOne 71 bs c = if bs.length % 7 = 0 then some (putLL bs c) else none := by unfold readOne; rw [if_neg (by omega), if_neg (by omega), if_pos rfl]
  rw [e71]
  by_cases h : bs.length % 7 = 0
  · rw [if_pos h]; exact rll_good X c a cap bs w hx hr hne hl hcap h
  · rw [if_neg h]
    refine (rll_bad X a bs.length cap w h hl).mono fun e w' ⟨h1, h2⟩ => ⟨?_, by rw [h2]; exact Keeps.refl _ _⟩
    rw [h1]; rfl
/-- A closure's answer: what reading answered. -/
theorem took_of {X : Nat} {r : Option Cp} {e : Ending} {w : World} (h : Took X r e w) : ∃ z : Bool, e = .returned (.bool z) ∧ Took X r (.returned (.bool z)) w := by
  cases r with
  | none => exact ⟨false, h, rfl⟩
  | some c => exact ⟨true, h.1, rfl, h.2⟩
set_option maxHeartbeats 1600000 in
theorem take1_any (X P : Nat) (c : Cp) (k : Nat) (a : Option Addr) (cap : Nat) (bs : List Nat) (w : World) (hp : w.cell? ⟨P, 0, none⟩ = some (.pointer (some ⟨X, 0, none⟩))) (hx : CBox w X c) (hr : BRd w a bs) (hne : ∀ x, a = some x → 0 < bs.length → x.block ≠ X) (hl : bs.length ≤ 10000) (hcap : bs.length ≤ cap) :
    Calls Tryz.prog 86 #[.int .i64 (k : Int), .slice a bs.length cap, .pointer (some ⟨P, 0, none⟩)] w fun e w' => Took X (readOne k bs c) e w' ∧ Keeps (fun b => b = X) w w' := by
  have hP := World.block_lt_of_cell? w _ hp
  simp only at hP
  have H65 := hide (rfour_any X c a cap bs w hx hr)
  have H64 := hide (rgr_any X c a cap bs w hx hr hne hl hcap)
  have H71 := hide (rll_any X c a cap bs w hx hr hne hl hcap)
  have HE : Hid (¬ k = 65 → ¬ k = 64 → ¬ k = 71 → readOne k bs c = some c) := fun h1 h2 h3 => by show _ = _; unfold readOne; rw [if_neg h1, if_neg h2, if_neg h3]
  have HX := hide hx
  clear hx hr hne
  by_cases h65 : k = 65
  · subst h65
    generalize readOne 65 bs c = ro at *
    generalize bs.length = n at *
    clear H64 H71 HE
    go_enter Tryz.func86, Tryz.ntmps86
    go_wp2_with fail
    refine H65.out.mono ?_
    rintro e w1 ⟨ht, hk⟩
    obtain ⟨z, rfl, ht⟩ := took_of ht
    have HT := hide ht
    have HK := hide hk
    clear ht hk
    go_wp2
    go_ret
    exact ⟨HT.out, HK.out⟩
  · by_cases h64 : k = 64
    · subst h64
      generalize readOne 64 bs c = ro at *
      generalize bs.length = n at *
      clear H65 H71 HE
      go_enter Tryz.func86, Tryz.ntmps86
      go_wp2_with fail
      refine H64.out.mono ?_
      rintro e w1 ⟨ht, hk⟩
      obtain ⟨z, rfl, ht⟩ := took_of ht
      have HT := hide ht
      have HK := hide hk
      clear ht hk
      go_wp2
      go_ret
      exact ⟨HT.out, HK.out⟩
    · by_cases h71 : k = 71
      · subst h71
        generalize readOne 71 bs c = ro at *
        generalize bs.length = n at *
        clear H65 H64 HE
        go_enter Tryz.func86, Tryz.ntmps86
        go_wp2_with fail
        refine H71.out.mono ?_
        rintro e w1 ⟨ht, hk⟩
        obtain ⟨z, rfl, ht⟩ := took_of ht
        have HT := hide ht
        have HK := hide hk
        clear ht hk
        go_wp2
        go_ret
        exact ⟨HT.out, HK.out⟩
      · have HE2 := hide (HE.out h65 h64 h71)
        generalize readOne k bs c = ro at *
        generalize bs.length = n at *
        have i65 : ((k : Int) == 65) = false := by simp; omega
        have i64 : ((k : Int) == 64) = false := by simp; omega
        have i71 : ((k : Int) == 71) = false := by simp; omega
        clear H65 H64 H71 HE h65 h64 h71
        go_enter Tryz.func86, Tryz.ntmps86
        go_wp2
        go_ret
        exact ⟨took_go HE2.out HX.out, Keeps.refl _ _⟩
end Go.Proofs.YtkmfnafecdfedaaGreatDoor
/- The program's each. -/
namespace Go.Proofs.YtkmfnafecdfedaaGreatDoor
open Go.RowKit
set_option maxRecDepth 100000

/-- What taking leaves. -/
def TookI (Inv : Cp → World → Prop) (r : Option Cp) (e : Ending) (w : World) : Prop := match r with
  | none => e = .returned (.bool false)
  | some c => e = .returned (.bool true) ∧ Inv c w
set_option maxHeartbeats 3200000 in
theorem each_inv (f : Nat → List Nat → Cp → Option Cp) (K : Nat) (cs : Array Value) (Inv : Cp → World → Prop) (F : Nat → Prop) (a : Option Addr) (cap : Nat) (bs : List Nat) (c0 : Cp) (w : World) (hl : bs.length ≤ 10000) (hcap : bs.length ≤ cap) (hr : BRd w a bs)
    (hF : ∀ x, a = some x → 0 < bs.length → ¬ F x.block) (hi : Inv c0 w)
    (hent : ∀ args w, (callFunc K args).run Tryz.prog w = .ok (.enter K args) w)
    (hst : ∀ c w1 w2, Inv c w1 → Below w1.heap.size w1 w2 → Inv c w2)
    (hcall : ∀ (w1 : World) (c : Cp) (k : Nat) (a : Option Addr) (cap : Nat) (vs : List Nat), Keeps F w w1 → Inv c w1 → BRd w1 a vs → (∀ x, a = some x → 0 < vs.length → ¬ F x.block) → vs.length ≤ 255 → vs.length ≤ cap → k < 256 →
      Calls Tryz.prog K (#[.int .i64 (k : Int), .slice a vs.length cap] ++ cs) w1 fun e w2 => TookI Inv (f k vs c) e w2 ∧ Keeps F w1 w2) :
    Calls Tryz.prog 62 #[.slice a bs.length cap, .func (.func K) #[] cs] w fun e w' => TookI Inv (eachC f bs c0) e w' ∧ Keeps F w w' := by
  have HR := hide hr
  have HF := hide hF
  have HI := hide hi
  have HST := hide hst
  have HC := hide hcall
  clear hr hF hi hst hcall
  go_enter Tryz.func62, Tryz.ntmps62
  go_wp2
  go_loopw [0] (fun u wq => ∃ (rest : List Nat) (a : Option Addr) (n cp : Nat) (c : Cp), u = .slice a n cp ∧ Hid (rest.length = n) ∧ n ≤ cp ∧ n ≤ 10000 ∧ Hid (eachC f bs c0 = eachC f rest c) ∧ Hid (BRd wq a rest) ∧ Hid (∀ x, a = some x → 0 < n → ¬ F x.block) ∧ Hid (Inv c wq) ∧ Hid (Keeps F w wq)) (fun u _ => sliceLen u)
  case atStart => exact ⟨bs, a, _, cap, c0, rfl, rfl, hcap, hl, rfl, HR, HF, HI, Keeps.refl _ _⟩
  case round =>
    clear HR HF HI
    obtain ⟨rest, a1, n, cp, c, rfl, HN, hnc, hn, HE, HB, HX, HI, HK⟩ := hrel
    by_cases h0 : n = 0
    · have HE2 : Hid (eachC f bs c0 = some c) := by
        show _ = _
        rw [HE.out, List.eq_nil_of_length_eq_zero (HN.out.trans h0), eachC_end]
      subst h0
      go_wp2
      go_ret
      exact ⟨by rw [HE2.out]; exact ⟨rfl, HI.out⟩, HK.out⟩
    · have hne : rest ≠ [] := fun e => h0 (by rw [← HN.out, e]; rfl)
      have hn0 : (0 : Int) < (n : Int) := by omega
      by_cases h2 : n < 2
      · have HE2 : Hid (eachC f bs c0 = none) := by
          show _ = _
          rw [HE.out, eachC_no hne (decide_eq_false (fun h => by rw [HN.out] at h; omega))]
        have h2i : (n : Int) < 2 := by omega
        go_wp2
        go_ret
        exact ⟨by rw [HE2.out]; rfl, HK.out⟩
      · obtain ⟨b, o, rfl, hc⟩ := HB.out.1.2 (by rw [HN.out]; omega)
        have hbF : ¬ F b := HX.out ⟨b, o, none⟩ rfl (by omega)
        obtain ⟨l, hl1⟩ : ∃ l, l = rest.getD 1 0 := ⟨_, rfl⟩
        obtain ⟨k, hk1⟩ : ∃ k, k = rest.getD 0 0 := ⟨_, rfl⟩
        have y1 : wr.cell? ⟨b, o + 1, none⟩ = some (.int .u8 (l : Int)) := by rw [hl1]; exact hc 1 (by rw [HN.out]; omega)
        have y0 : wr.cell? ⟨b, o, none⟩ = some (.int .u8 (k : Int)) := by rw [hk1]; exact hc 0 (by rw [HN.out]; omega)
        have hl256 : l < 256 := by rw [hl1]; exact getD_lt256 HB.out.2 1
        have hk256 : k < 256 := by rw [hk1]; exact getD_lt256 HB.out.2 0
        have hbs : b < wr.heap.size := by have := World.block_lt_of_cell? wr _ y0; simpa using this
        have hn1 : (1 : Int) < (n : Int) := by omega
        have h2i : ¬ ((n : Int) < 2) := by omega
        by_cases hend : n < 2 + l
        · have HE2 : Hid (eachC f bs c0 = none) := by
            show _ = _
            rw [HE.out, eachC_no hne (decide_eq_false (fun h => by rw [HN.out, ← hl1] at h; omega))]
          have hei : (n : Int) < 2 + (l : Int) := by omega
          clear HE HB HX HC hc hl1 hk1 hne h0 h2
          go_wp2_with fail
          go_quiet (fail)
          go_wp2
          go_ret
          exact ⟨by rw [HE2.out]; rfl, ⟨HK.out.os, HK.out.tape, HK.out.output, HK.out.size, HK.out.block⟩⟩
        · have hok : okE rest = true := decide_eq_true (by rw [HN.out, ← hl1]; omega)
          have HE2 : Hid (eachC f bs c0 = (f k ((rest.drop 2).take l) c).bind (eachC f (rest.drop (2 + l)))) := by
            show _ = _
            rw [HE.out, eachC_go hok, ← hl1, ← hk1]
          have hei : decide ((n : Int) < 2 + (l : Int)) = false := decide_eq_false (by omega)
          have hvl : ((rest.drop 2).take l).length = l := by rw [List.length_take, List.length_drop, HN.out]; omega
          have hbd : Below wr.heap.size wr wr.drew := (Below.refl _ _).drew
          have HKd : Hid (Keeps F w wr.drew) := HK.out.drew
          have HBd : Hid (BRd wr.drew (some ⟨b, o, none⟩) rest) := HB.out.below hbd
          have HC1 : Hid (∀ a3 c3, (l = 0 ∨ a3 = some ⟨b, o + 2, none⟩) → l ≤ c3 → Calls Tryz.prog K (#[.int .i64 (k : Int), .slice a3 l c3] ++ cs) wr.drew fun e w2 => TookI Inv (f k ((rest.drop 2).take l) c) e w2 ∧ Keeps F wr.drew w2) := fun a3 c3 ha hlc => by
            have h9 := HC.out wr.drew c k a3 c3 ((rest.drop 2).take l) HKd.out (HST.out c wr wr.drew HI.out hbd) ?_ ?_ (by omega) (by omega) hk256
            · rw [hvl] at h9; exact h9
            · rcases ha with rfl | rfl
              · rw [List.take_zero]; exact brd_none _ _
              · exact brd_from HBd.out 2 l (by rw [HN.out]; omega)
            · intro x hx hp
              rcases ha with rfl | rfl
              · rw [hvl] at hp; omega
              · cases hx; exact hbF
          have HBB : Hid (∀ W, Keeps F wr.drew W → BRd W (some ⟨b, o, none⟩) rest) := fun W hk => HBd.out.keeps hk (fun x e _ => by cases e; exact hbF)
          have HND : Hid ((rest.drop (2 + l)).length = n - (2 + l)) := by show _ = _; rw [List.length_drop, HN.out]
          have hs0 : wr.drew.cell? ⟨b, o, none⟩ = some (.int .u8 (k : Int)) := y0
          have HS0 := hide hs0
          have htn : (2 + (l : Int)).toNat - 2 = l := by omega
          have HSW : Hid (∀ W, Keeps F wr.drew W → W.cell? ⟨b, o, none⟩ = some (.int .u8 (k : Int))) := fun W hk => by rw [hk.cell ⟨b, o, none⟩ hbs hbF]; exact HS0.out
          have hwk : IntKind.i64.wrap (k : Int) = (k : Int) := by rw [IntKind.wrap_i64]; omega
          clear HE HB HC hc hl1 hk1 hne h0 h2 hok hbd hs0
          by_cases hc2 : cp = 2
          · have hl0 : l = 0 := by omega
            have hn2 : n = 2 := by omega
            subst hl0
            subst hn2
            subst hc2
            have HC2 := hide (HC1.out (some ⟨b, o, none⟩) 0 (.inl rfl) (by omega))
            clear HC1
            cases hfr : f k ((rest.drop 2).take 0) c with
            | none =>
              rw [hfr] at HC2 HE2
              go_wp2_with fail
              go_region_held3 (fun w' => w'.cell? ⟨b, o, none⟩ = some (.int .u8 (k : Int)))
                (with_reducible first | exact HS0.out | exact HS2.out | fail)
                (first
                  | (try rw [hwk]
                     try rw [htn]
                     with_reducible refine HC2.out.mono ?_
                     rintro e w2 ⟨ht, hk2⟩
                     obtain rfl : e = _ := ht
                     have HK2 := hide hk2
                     have HS2 := hide (HSW.out w2 hk2)
                     clear hk2))
              all_goals go_wp2
              all_goals go_ret
              all_goals exact ⟨by rw [HE2.out]; rfl, HKd.out.trans HK2.out (fun _ _ h => h)⟩
            | some c2 =>
              rw [hfr] at HC2 HE2
              go_wp2_with fail
              go_region_held3 (fun w' => w'.cell? ⟨b, o, none⟩ = some (.int .u8 (k : Int)))
                (with_reducible first | exact HS0.out | exact HS2.out | fail)
                (first
                  | (try rw [hwk]
                     try rw [htn]
                     with_reducible refine HC2.out.mono ?_
                     rintro e w2 ⟨ht, hk2⟩
                     obtain ⟨rfl, hi2⟩ := ht
                     have HI2 := hide hi2
                     have HK2 := hide hk2
                     have HS2 := hide (HSW.out w2 hk2)
                     clear hk2))
              all_goals go_wp2
              all_goals exact ⟨⟨rest.drop (2 + 0), _, _, _, c2, rfl, HND.out.trans (by omega), by omega, by omega, HE2, by show BRd _ _ _; rw [List.eq_nil_of_length_eq_zero (HND.out.trans (by omega))]; exact brd_none _ _, fun x _ h => absurd h (by omega), HI2, HKd.out.trans HK2.out (fun _ _ h => h)⟩, by simp [sliceLen]⟩
          · have HC2 := hide (HC1.out (some ⟨b, o + 2, none⟩) (cp - 2) (.inr rfl) (by omega))
            have hs1 : (2 : Int) ≤ 2 + (l : Int) := by omega
            have hs2 : 2 + (l : Int) ≤ (cp : Int) := by omega
            have hs3 : 2 + (l : Int) ≤ (n : Int) := by omega
            clear HC1
            cases hfr : f k ((rest.drop 2).take l) c with
            | none =>
              rw [hfr] at HC2 HE2
              go_wp2_with fail
              go_region_held3 (fun w' => w'.cell? ⟨b, o, none⟩ = some (.int .u8 (k : Int)))
                (with_reducible first | exact HS0.out | exact HS2.out | fail)
                (first
                  | (try rw [hwk]
                     try rw [htn]
                     with_reducible refine HC2.out.mono ?_
                     rintro e w2 ⟨ht, hk2⟩
                     obtain rfl : e = _ := ht
                     have HK2 := hide hk2
                     have HS2 := hide (HSW.out w2 hk2)
                     clear hk2))
              all_goals go_wp2
              all_goals go_ret
              all_goals exact ⟨by rw [HE2.out]; rfl, HKd.out.trans HK2.out (fun _ _ h => h)⟩
            | some c2 =>
              by_cases hce : cp = 2 + l
              · have hl0 : ¬ l = 0 := by omega
                subst hce
                rw [show 2 + l - 2 = l from by omega] at HC2
                rw [hfr] at HC2 HE2
                go_wp2_with fail
                go_region_held3 (fun w' => w'.cell? ⟨b, o, none⟩ = some (.int .u8 (k : Int)))
                  (with_reducible first | exact HS0.out | exact HS2.out | fail)
                  (first
                    | (try rw [hwk]
                       try rw [htn]
                       with_reducible refine HC2.out.mono ?_
                       rintro e w2 ⟨ht, hk2⟩
                       obtain ⟨rfl, hi2⟩ := ht
                       have HI2 := hide hi2
                       have HK2 := hide hk2
                       have HS2 := hide (HSW.out w2 hk2)
                       clear hk2))
                all_goals go_wp2
                all_goals exact ⟨⟨rest.drop (2 + l), _, _, _, c2, rfl, HND.out.trans (by omega), by omega, by omega, HE2, by show BRd _ _ _; rw [List.eq_nil_of_length_eq_zero (HND.out.trans (by omega))]; exact brd_none _ _, fun x _ h => absurd h (by omega), HI2, HKd.out.trans HK2.out (fun _ _ h => h)⟩, by simp [sliceLen]; omega⟩
              · rw [hfr] at HC2 HE2
                go_wp2_with fail
                go_region_held3 (fun w' => w'.cell? ⟨b, o, none⟩ = some (.int .u8 (k : Int)))
                  (with_reducible first | exact HS0.out | exact HS2.out | fail)
                  (first
                    | (try rw [hwk]
                       try rw [htn]
                       with_reducible refine HC2.out.mono ?_
                       rintro e w2 ⟨ht, hk2⟩
                       obtain ⟨rfl, hi2⟩ := ht
                       have HI2 := hide hi2
                       have HK2 := hide hk2
                       have HS2 := hide (HSW.out w2 hk2)
                       clear hk2))
                all_goals go_wp2
                all_goals exact ⟨⟨rest.drop (2 + l), _, _, _, c2, rfl, HND, by omega, by omega, HE2, by show BRd _ _ _; have h9 := brd_from (HBB.out _ HK2.out) (2 + l) (n - (2 + l)) (by rw [HN.out]; omega); rw [List.take_of_length_le (by rw [HND.out]; exact Nat.le_refl _)] at h9; exact h9, fun x hx _ => by cases hx; exact hbF, HI2, HKd.out.trans HK2.out (fun _ _ h => h)⟩, by simp [sliceLen]; omega⟩
end Go.Proofs.YtkmfnafecdfedaaGreatDoor
