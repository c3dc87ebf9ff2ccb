/- A KEEPALIVE comes; 'answers'. -/
import Derived.Test.YtflhohfeahcnfaaGreatDoorHSd
import Derived.Test.YtflhohfeahcnfaaGreatDoorHSb
import Derived.Test.YtflhohfeahcnfaaGreatDoorHRm
import Derived.Test.YtflhohfeahcnfaaGreatDoorMgC
namespace Go.Proofs.YtflhohfeahcnfaaGreatDoor
open Go.RowKit
set_option maxRecDepth 100000

def alvB : List Nat := ff16 ++ [0, 19, 4]
theorem alv_len : alvB.length = 19 := rfl
theorem alv_lt : ∀ x ∈ alvB, x < 256 := by decide
theorem alv_head : headM alvB = (19, 0, 0, []) := by decide
/-- What Decode answers of a KEEPALIVE. -/
def RAl (C : Array Value) (k q : Int) (_ : Value) (_ : Nat) (_ : World) : Prop := C = msgC 4 0 0 (.slice none 0 0) ∧ k = 0 ∧ q = 0
/-- A KEEPALIVE that waits, alone. -/
theorem next_alive (S g o c : Nat) (s : Int) (d : Value) (w : World) (h : StrAt w S (.slice (some ⟨g, o, none⟩) 19 c) 0 s d) (hcap : 19 ≤ c) (hb : BRd w (some ⟨g, o, none⟩) alvB) (hS : SaidM w) :
    Calls Tryz.prog 19 #[.pointer (some ⟨S, 0, none⟩)] w fun e w' => ∃ v, e = .returned (.tuple #[.agg (msgC 4 0 0 (.slice none 0 0)), .agg #[.int .i64 0, .int .i64 0, v], .bool true]) ∧ Hid (∃ d', StrAt w' S (.slice none 0 0) 0 0 d') ∧ Hid (Keeps (fun x => x = S) w w') ∧ ∃ va vn vc, v = .slice va vn vc := by
  refine (next_whole (fun C k q v B W => RAl C k q v B W ∧ ∃ va vn vc, v = .slice va vn vc) (fun C k q v B W1 W2 F _ _ h => h) S g o 19 c 19 alvB s d w h rfl (by omega) hcap hb hS alv_head (by omega) (Nat.le_refl _) (fun W hW => ?_)).mono ?_
  · refine (dec_alive g o c alvB W alv_len hcap (hb.below hW) (hS.below hW) alv_head rfl).mono ?_
    rintro e W' ⟨a9, c9, rfl, hb9⟩
    exact ⟨_, 0, 0, a9, 0, c9, [], rfl, MC.msg 4 0 0 none 0 0, ⟨rfl, by omega, by simp, fun h => absurd rfl h⟩, ⟨⟨rfl, rfl, rfl⟩, _, _, _, rfl⟩, hb9⟩
  · rintro e w' ⟨C, k, q, v, rfl, ⟨B, _, ⟨rfl, rfl, rfl⟩, hv⟩, ⟨a9, c9, nn, hs⟩, hk⟩
    have e9 : restV g o 19 c 19 = .slice none 0 0 := by unfold restV; rw [if_pos rfl]
    rw [e9] at hs
    exact ⟨v, rfl, ⟨_, hs⟩, hk, hv⟩
end Go.Proofs.YtflhohfeahcnfaaGreatDoor
/- 'answers'. -/
namespace Go.Proofs.YtflhohfeahcnfaaGreatDoor
open Go.RowKit
set_option maxRecDepth 100000

/-- A stream in which ys waits, in a row of its own, from block B on; all else of w stands. -/
structure Wait (w wq : World) (S B : Nat) (v : Value) (ys : List Nat) : Prop where
  st : ∃ d, StrAt wq S v 0 0 d
  own : wq.ownsRow B 5 1 v ys.length (bcells ys)
  bel : Below w.heap.size w wq
  lo : w.heap.size ≤ S
  hS : S < B
  hB : B ≤ wq.heap.size
  lt : ∀ x ∈ ys, x < 256
theorem Wait.below {w wq w' : World} {S B : Nat} {v : Value} {ys : List Nat} (h : Wait w wq S B v ys) (hb : Below wq.heap.size wq w') : Wait w w' S B v ys := by
  obtain ⟨d, hd⟩ := h.st
  exact ⟨⟨d, hd.below hb⟩, own_later h.own hb, h.bel.trans (hb.mono h.bel.size), h.lo, h.hS, Nat.le_trans h.hB hb.size, h.lt⟩
theorem wait_new {w wq w' : World} (hb : Below w.heap.size w wq) (hw : Below (wq.alloc (.cells #[.slice none 0 0, .int .i64 0, .int .i64 0, .slice none 0 0] 77)).heap.size (wq.alloc (.cells #[.slice none 0 0, .int .i64 0, .int .i64 0, .slice none 0 0] 77)) w') : Wait w w' wq.heap.size w'.heap.size (.slice none 0 0) [] := by
  have hz := hw.size
  simp at hz
  exact ⟨⟨_, (str_new wq).below hw⟩, own_nil _ _ _ _, (hb.alloc hb.size _).trans (hw.mono (by have := hb.size; simp; omega)), hb.size, by omega, Nat.le_refl _, by simp⟩
theorem Wait.read {w wq : World} {S B : Nat} {v : Value} {ys : List Nat} (h : Wait w wq S B v ys) (hl : ys.length ≤ 100000) : ∃ a c, v = .slice a ys.length c ∧ ys.length ≤ c ∧ BRd wq a ys := own_brd h.own (by omega) h.lt
/-- Feed. -/
theorem wait_feed {w wq : World} {S B n : Nat} {v : Value} {ys zs : List Nat} (a : Option Addr) (c : Nat) (h : Wait w wq S B v ys) (hl : ys.length + zs.length ≤ 100000) (hz : BRd wq a zs) (hn : zs.length = n) :
    Calls Tryz.prog 18 #[.pointer (some ⟨S, 0, none⟩), .slice a n c] wq fun e w' => e = .returned (.tuple #[]) ∧ Hid (∃ v', Wait w w' S B v' (ys ++ zs)) ∧ Hid (Keeps (fun b => b = S ∨ v.ownBlock = some b) wq w') := by
  subst hn
  obtain ⟨d, hd⟩ := h.st
  refine (feed_own wq S B v ys zs a c 0 0 d hd h.own h.hB (fun e => by have := (own_block h.own S e).1; have := h.hS; omega) hl hz).mono ?_
  rintro e w' ⟨rfl, v', hs, ho, hne, hk⟩
  have hk2 : Keeps (fun b => b = S ∨ B ≤ b) wq w' := hk.mono fun b _ hb => by
    rcases hb with rfl | hb
    · exact .inl rfl
    · exact .inr (own_block h.own b hb).1
  refine ⟨rfl, ⟨v', ⟨d, hs⟩, ho, h.bel.trans (hk2.below _ h.bel.size (fun b hb => by have := h.lo; have := h.hS; omega)), h.lo, h.hS, Nat.le_trans h.hB hk2.size, fun x hx => ?_⟩, hk⟩
  rcases List.mem_append.1 hx with hx | hx
  · exact h.lt x hx
  · exact hz.2 x hx
/-- Bytes that lie below a stream stay read. -/
theorem brd_keep {w w' : World} {F : Nat → Prop} {a : Option Addr} {bs : List Nat} (h : BRd w a bs) (hk : Keeps F w w') (hF : ∀ b o, a = some ⟨b, o, none⟩ → ¬ F b) : BRd w' a bs := by
  refine ⟨⟨h.1.1, fun hp => ?_⟩, h.2⟩
  obtain ⟨b, o, e, hc⟩ := h.1.2 hp
  refine ⟨b, o, e, fun i hi => ?_⟩
  have hz := World.block_lt_of_cell? w _ (hc i hi)
  rw [hk.cell ⟨b, o + i, none⟩ hz (hF b o e)]
  exact hc i hi
section
attribute [local go_sem ↓] keptM_load keptM_store keptM_alloc keptM_build
set_option maxHeartbeats 8000000 in
theorem sanswers_any (w : World) (hS : SaidM w) : Calls Tryz.prog 16 #[] w fun e w' => e = .returned (.bool true) ∧ Below w.heap.size w w' := by
  have HS := hide hS
  clear hS
  go_enter Tryz.func16, Tryz.ntmps16
  go_wp2_with fail
  refine (snew_any w).mono ?_
  rintro e w1 ⟨rfl, rfl⟩
  go_wp2_with (refine keptM_build1_intro 0 _ (.int .i64 4) (.agg (msgC 4 0 0 (.slice none 0 0))) (by rfl) (run_buildkM 4 _) ?_)
  refine (rmsg_alive _).mono ?_
  rintro e w2 ⟨⟨b, o, sp⟩, c, rfl, hc, hsp, hbS0, HR, HB⟩
  simp only at hsp hbS0
  subst hsp
  have HW := hide (wait_new (Below.refl w.heap.size w) HB.out)
  have HR5 : Hid (BRd w2 (some ⟨b, o, none⟩) (alvB.take 5)) := brd_take HR.out 5
  have hbz : b < w2.heap.size := by
    obtain ⟨b', o', e9, hc9⟩ := HR.out.1.2 (by decide)
    cases e9
    exact World.block_lt_of_cell? w2 _ (hc9 0 (by decide))
  have hbS : Hid (b ≠ w.heap.size ∧ b < w2.heap.size) := ⟨by simp at hbS0; omega, hbz⟩
  clear hbS0 hbz
  have z5 : (5 : Nat) ≤ c := by omega
  have z5c : ¬ c = 5 := by omega
  go_wp2_with fail
  refine (wait_feed (some ⟨b, o, none⟩) c HW.out (by simp [alvB, ff16]) HR5.out (by rfl)).mono ?_
  rintro e w3 ⟨rfl, HW3, HK3⟩
  obtain ⟨v3, hw3⟩ := HW3.out
  obtain ⟨a3, c3, rfl, hc3, hr3⟩ := hw3.read (by simp [alvB, ff16])
  obtain ⟨d3, hs3⟩ := hw3.st
  have e5 : ([] ++ alvB.take 5).length = 5 := by rfl
  rw [e5] at hs3 hc3
  have HNX := hide (next_wait w.heap.size 5 c3 0 a3 ([] ++ alvB.take 5) 0 d3 w3 hs3 e5 (by omega) hc3 hr3 (HS.out.below hw3.bel) (headM_short (by rw [e5]; omega)) (.inl rfl))
  have HW3' := hide hw3
  clear hs3 hr3 hc3 hw3 HW3
  go_wp2_with fail
  refine HNX.out.mono ?_
  rintro e w4 ⟨rfl, hb4⟩
  have HW4 := hide (HW3'.out.below hb4)
  have HB34 := hide hb4
  clear hb4 HNX
  obtain ⟨X1, X3, HRA, hX1, HST, HX3, HLB⟩ := law_boxes w4 MC.zero 0 0 none 0 0
  have hX1s := hX1
  obtain ⟨zx3, r0, r1, r2, f0, f1, f2⟩ := HX3.out
  go_wp2_with (first | (refine keptM_alloc_intro _ HRA.out ?_; rw [hX1s] at *) | (refine keptM_store_intro _ _ (.pointer (some ⟨w4.heap.size, 0, none⟩)) (.agg zM) (by rfl) (by rfl) HST.out ?_))
  generalize ((X3.setCell ⟨w4.heap.size + 1, 0, none⟩ (.int .i64 0)).setCell ⟨w4.heap.size + 1, 1, none⟩ (.int .i64 0)).setCell ⟨w4.heap.size + 1, 2, none⟩ (.slice none 0 0) = V1 at *
  have HW5 := hide (HW4.out.below HLB.out.bel)
  have HR14 : Hid (BRd V1 (some ⟨b, o + 5, none⟩) (alvB.drop 5)) := by
    have h1 : BRd w2 (some ⟨b, o + 5, none⟩) (alvB.drop 5) := brd_drop HR.out (by decide)
    have h2 := brd_keep h1 HK3.out (fun b' o' e => by
      cases e
      have := hbS.out
      rintro (h | h)
      · omega
      · cases h)
    exact (h2.below HB34.out).below HLB.out.bel
  clear HRA hX1 hX1s HST HX3 zx3 r0 r1 r2 f0 f1 f2
  refine (wait_feed (some ⟨b, o + 5, none⟩) (c - 5) HW5.out (by simp [alvB, ff16]) HR14.out (by rfl)).mono ?_
  rintro e w6 ⟨rfl, HW6, HK6⟩
  obtain ⟨v6, hw6⟩ := HW6.out
  have e6 : ([] ++ alvB.take 5) ++ alvB.drop 5 = alvB := by rfl
  rw [e6] at hw6
  obtain ⟨a6, c6, rfl, hc6, hr6⟩ := hw6.read (by simp [alvB, ff16])
  rw [alv_len] at hc6
  obtain ⟨g6, o6, rfl, _⟩ := hr6.1.2 (by rw [alv_len]; omega)
  obtain ⟨d6, hs6⟩ := hw6.st
  rw [alv_len] at hs6
  have HNX := hide (next_alive w.heap.size g6 o6 c6 0 d6 w6 hs6 hc6 hr6 (HS.out.below hw6.bel))
  have HB6 := hide hw6.bel
  clear hs6 hr6 hc6 hw6 HW6 HK6 HK3 HR14 HW5 HW4 HW3' HLB HB34
  go_wp2_with fail
  refine HNX.out.mono ?_
  rintro e w7 ⟨v7, rfl, HS7, HK7, va, vn, vc, rfl⟩
  obtain ⟨d7, hs7⟩ := HS7.out
  have HB7 : Hid (Below w.heap.size w w7) := HB6.out.trans (HK7.out.below _ HB6.out.size (fun x e => by omega))
  have HS7' := hide hs7
  clear hs7 HS7 HNX
  obtain ⟨Y1, Y3, HRA, hX1, HST, HX3, HLC⟩ := law_boxes w7 (MC.msg 4 0 0 none 0 0) 0 0 va vn vc
  have hX1s := hX1
  obtain ⟨zx3, r0, r1, r2, f0, f1, f2⟩ := HX3.out
  have y0 : Y3.cell? ⟨w7.heap.size, 0, none⟩ = some (.int .i64 4) := by
    have h9 := range_of HLC.out.bM 0 _ rfl
    simpa [go_sem] using h9
  have zy : w7.heap.size < Y3.heap.size := by omega
  go_wp2_with (first | (refine keptM_alloc_intro _ HRA.out ?_; rw [hX1s] at *) | (refine keptM_store_intro _ _ (.pointer (some ⟨w7.heap.size, 0, none⟩)) (.agg (msgC 4 0 0 (.slice none 0 0))) (by rfl) (by rfl) HST.out ?_))
  generalize ((Y3.setCell ⟨w7.heap.size + 1, 0, none⟩ (.int .i64 0)).setCell ⟨w7.heap.size + 1, 1, none⟩ (.int .i64 0)).setCell ⟨w7.heap.size + 1, 2, none⟩ (.slice va vn vc) = V2 at *
  clear HRA hX1 hX1s HST HX3 zx3 r0 r1 r2 f0 f1 f2 y0 zy
  refine (left_any V2 w.heap.size none 0 0 0 0 d7 (HS7'.out.below HLC.out.bel)).mono ?_
  rintro e w9 ⟨rfl, rfl⟩
  have HB9 : Hid (Below w.heap.size w w9) := HB7.out.trans (HLC.out.bel.mono HB7.out.size)
  go_wp2
  go_ret
  exact ⟨rfl, HB9.out⟩
end
end Go.Proofs.YtflhohfeahcnfaaGreatDoor
