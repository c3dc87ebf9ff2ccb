/- StreamOwn's walk. -/
import Derived.Test.YtflhohfeahcnfaaGreatDoorStH
import Derived.Test.YtflhohfeahcnfaaGreatDoorAtSn
namespace Go.Proofs.YtflhohfeahcnfaaGreatDoor
open Go.RowKit
set_option maxRecDepth 100000

set_option maxHeartbeats 1600000 in
theorem own_ans (a0 : Option Addr) (n c0 : Nat) (w : World) (hS : SaidM w) (h : n = 0 ∨ 100 < n) :
    Calls Tryz.prog 7 #[.slice a0 n c0] w fun e w' => e = .returned (.bool true) ∧ Below w.heap.size w w' := by
  have HA := hide (sanswers_any w hS)
  clear hS
  rcases h with rfl | h
  · go_enter Tryz.func7, Tryz.ntmps7
    go_wp2_with fail
    refine HA.out.mono ?_
    rintro e w2 ⟨rfl, hb2⟩
    have HB := hide hb2
    clear hb2
    go_wp2
    go_ret
    exact ⟨rfl, HB.out⟩
  · have i1 : ((n : Int) == 0) = false := by simp; omega
    have i2 : (100 : Int) < (n : Int) := by omega
    clear h
    go_enter Tryz.func7, Tryz.ntmps7
    go_wp2_with fail
    refine HA.out.mono ?_
    rintro e w2 ⟨rfl, hb2⟩
    have HB := hide hb2
    clear hb2
    go_wp2
    go_ret
    exact ⟨rfl, HB.out⟩
/-- Bytes in a block that may be changed. -/
def Byts (w : World) (b z : Nat) : Prop := ∀ i, i < z → (∃ x : Nat, x < 256 ∧ w.cell? ⟨b, i, none⟩ = some (.int .u8 (x : Int))) ∧ w.frozen? ⟨b, i, none⟩ = false
theorem Byts.set {w : World} {b z j : Nat} (h : Byts w b z) (hj : j < z) (y : Nat) (hy : y < 256) : Byts (w.setCell ⟨b, j, none⟩ (.int .u8 (y : Int))) b z := fun i hi => by
  refine ⟨?_, by simpa using (h i hi).2⟩
  by_cases e : i = j
  · subst e
    refine ⟨y, hy, ?_⟩
    obtain ⟨x, _, hx⟩ := (h i hi).1
    have := World.cell?_setCells_in b [.int .u8 (y : Int)] i w (fun q hq => by
      have : q = 0 := by simp at hq; omega
      subst this
      rw [Nat.add_zero, hx]; rfl) 0 (by simp)
    simpa [World.setCells] using this
  · obtain ⟨x, hx1, hx⟩ := (h i hi).1
    refine ⟨x, hx1, ?_⟩
    have := World.cell?_setCells_out b [.int .u8 (y : Int)] j w ⟨b, i, none⟩ (fun _ _ => by simp; omega)
    simp only [World.setCells] at this
    rw [this]
    exact hx
theorem byts_own {w : World} {B z : Nat} {b c : Nat} {ys : List Nat} (h : w.ownsRow B 5 1 (.slice (some ⟨b, 0, none⟩) z c) z (bcells ys)) (hl : ys.length = z) (hy : ∀ x ∈ ys, x < 256) : Byts w b z := fun i hi => by
  have hc := h.cellAt i (by omega)
  have e : (bcells ys)[i]? = some (.int .u8 ((ys[i]'(by omega) : Nat) : Int)) := by simp [bcells, show i < ys.length by omega]
  refine ⟨⟨ys[i]'(by omega), hy _ (List.getElem_mem _), by rw [hc, e]⟩, ?_⟩
  rcases h.2 with ⟨e9, _⟩ | ⟨g, cap, cur, e9, _, hcur, _⟩
  · cases e9
  · cases e9
    simp [World.frozen?, hcur]
section
attribute [local go_sem ↓] keptM_load keptM_store keptM_alloc keptM_build
set_option maxHeartbeats 16000000 in
theorem own_in (g0 o0 n c0 : Nat) (ds : List Nat) (w : World) (hS : SaidM w) (hn : ds.length = n) (h1 : 1 ≤ n) (h2 : n ≤ 100) (hd : BRd w (some ⟨g0, o0, none⟩) ds) :
    Calls Tryz.prog 7 #[.slice (some ⟨g0, o0, none⟩) n c0] w fun e w' => e = .returned (.bool true) ∧ Below w.heap.size w w' := by
  have HS := hide hS
  have HN := hide hn
  have HD := hide hd
  have i1 : ((n : Int) == 0) = false := by simp; omega
  have i2 : decide ((100 : Int) < (n : Int)) = false := decide_eq_false (by omega)
  obtain ⟨M, hM⟩ : ∃ M, M = noteB 0 0 ds := ⟨_, rfl⟩
  obtain ⟨z, hz⟩ : ∃ z, z = 21 + n := ⟨_, rfl⟩
  have HM := hide hM
  have HZ := hide hz
  have HML : Hid (M.length = z) := by show _ = _; rw [hM, hz, noteB_length, hn]
  have HMx : Hid (∀ x ∈ M, x < 256) := by show ∀ x ∈ M, x < 256; rw [hM]; exact noteB_lt (by decide) (by decide) hd.2 (by omega)
  have hzz : 21 ≤ z ∧ z ≤ 121 := by omega
  clear hS hn hd hM hz
  go_enter Tryz.func7, Tryz.ntmps7
  go_wp2_with fail
  refine (snew_any w).mono ?_
  rintro e w1 ⟨rfl, rfl⟩
  have HBn : Hid (Below w.heap.size w (w.alloc (.cells #[.slice none 0 0, .int .i64 0, .int .i64 0, .slice none 0 0] 77))) := (Below.refl _ _).alloc (Nat.le_refl _) _
  have KM : Hid (Calls Tryz.prog 14 #[.agg (msgC 3 0 0 (.slice (some ⟨g0, o0, none⟩) n c0))] (w.alloc (.cells #[.slice none 0 0, .int .i64 0, .int .i64 0, .slice none 0 0] 77)) fun e w' => ∃ v, e = .returned v ∧ w'.ownsRow (w.alloc (.cells #[.slice none 0 0, .int .i64 0, .int .i64 0, .slice none 0 0] 77)).heap.size 5 1 v z (bcells M) ∧ Below (w.alloc (.cells #[.slice none 0 0, .int .i64 0, .int .i64 0, .slice none 0 0] 77)).heap.size (w.alloc (.cells #[.slice none 0 0, .int .i64 0, .int .i64 0, .slice none 0 0] 77)) w') := by
    have h9 := rmsg_note 0 0 n c0 (some ⟨g0, o0, none⟩) ds (w.alloc (.cells #[.slice none 0 0, .int .i64 0, .int .i64 0, .slice none 0 0] 77)) (by decide) (by decide) HN.out (by omega) (HD.out.below HBn.out)
    rw [← HZ.out, ← HM.out] at h9
    exact h9
  go_wp2_with (refine keptM_build2_intro 0 3 _ _ (.int .i64 3) (.agg #[.int .i64 0, .int .i64 0, .slice (some ⟨g0, o0, none⟩) n c0]) _ (by rfl) (by rfl) (run_buildnM 3 0 0 (some ⟨g0, o0, none⟩) n c0 _) ?_)
  refine KM.out.mono ?_
  rintro e w2 ⟨v2, rfl, ho2, hb2⟩
  obtain ⟨b, c2, rfl, hb, hbz⟩ := ho2.form (by omega)
  have hbS : w.heap.size < b := by simp at hb; omega
  have HW := hide (wait_new (w := w) (Below.refl w.heap.size w) hb2)
  have HO2 := hide ho2
  have HB2 : Hid (Below w.heap.size w w2) := HBn.out.trans (hb2.mono HBn.out.size)
  have hr2 : BRd w2 (some ⟨b, 0, none⟩) M := by
    have h9 := ho2
    rw [← HML.out] at h9
    obtain ⟨a9, c9, e9, _, h8⟩ := own_brd h9 (by rw [HML.out]; omega) HMx.out
    cases e9
    exact h8
  have HR2 := hide hr2
  clear hr2 ho2 hb2 KM
  go_wp2_with fail
  refine (wait_feed (some ⟨b, 0, none⟩) c2 HW.out (by rw [HML.out]; simp; omega) HR2.out HML.out).mono ?_
  rintro e w3 ⟨rfl, HW3, HK3⟩
  obtain ⟨v3, hw3⟩ := HW3.out
  have nF : ¬ (b = w.heap.size ∨ (Value.slice none 0 0).ownBlock = some b) := by
    rintro (h | h)
    · omega
    · cases h
  have HO3 := hide (own_stays HO2.out HK3.out (fun x hx => by simp [Value.ownBlock] at hx; subst hx; exact nF))
  have HR3 := hide (brd_keep HR2.out HK3.out (fun b' o' e => by cases e; exact nF))
  have nG : ¬ (b = w.heap.size ∨ v3.ownBlock = some b) := by
    rintro (h | h)
    · omega
    · have := (own_block hw3.own b h).1; omega
  have HW3' := hide hw3
  clear hw3 HW3 HR2 HO2 HW
  go_wp2_with fail
  refine (wait_feed (some ⟨b, 0, none⟩) c2 HW3'.out (by rw [List.nil_append, HML.out]; omega) HR3.out HML.out).mono ?_
  rintro e w4 ⟨rfl, HW4, HK4⟩
  obtain ⟨v4, hw4⟩ := HW4.out
  rw [List.nil_append] at hw4
  have HO4 := hide (own_stays HO3.out HK4.out (fun x hx => by simp [Value.ownBlock] at hx; subst hx; exact nG))
  have HY4 := hide (byts_own HO4.out HML.out HMx.out)
  have HW4' := hide hw4
  have hz4 : b < w4.heap.size := by have := hw4.hB; omega
  clear hw4 HW4 HO3 HR3 HW3' HK3 HK4 nF nG
  go_wp2
  go_loopw [5] (fun i wq => ∃ j : Nat, j ≤ z ∧ i = .int .i64 j ∧ Hid (Byts wq b z) ∧ Hid (Keeps (fun x => x = b) w4 wq)) (fun i _ => z - (intOf i).toNat)
  case atStart => exact ⟨0, Nat.zero_le _, rfl, HY4, Keeps.refl _ _⟩
  case round =>
    obtain ⟨j, hj, rfl, HY, HK⟩ := hrel
    by_cases hlt : j < z
    · obtain ⟨⟨x, hx, cx⟩, fx⟩ := HY.out j hlt
      have hk0 : (0 : Int) ≤ (j : Int) := Int.natCast_nonneg _
      have hk1 : (j : Int) < (z : Int) := by omega
      have ex : IntKind.u8.wrap ((x : Int) + 1) = (((x + 1) % 256 : Nat) : Int) := by rw [IntKind.wrap_u8]; omega
      have HY2 := hide (HY.out.set hlt ((x + 1) % 256) (by omega))
      have HK2 : Hid (Keeps (fun x => x = b) w4 (wr.setCell ⟨b, j, none⟩ (.int .u8 (((x + 1) % 256 : Nat) : Int)))) := HK.out.setCell b j _ (.inl rfl)
      have zb : b < wr.heap.size := World.block_lt_of_cell? wr _ cx
      go_wp2
      exact ⟨⟨j + 1, by omega, by go_num, HY2, HK2⟩, by simp [intOf]; omega⟩
    · obtain rfl : j = z := by omega
      clear hlt hj
      obtain ⟨d5, hs4⟩ := HW4'.out.st
      have hb4 : w.heap.size < w4.heap.size := Nat.lt_of_lt_of_le HW4'.out.hS HW4'.out.hB
      have ho5 : wr.ownsRow w2.heap.size 5 1 v4 (M ++ M).length (bcells (M ++ M)) := own_stays HW4'.out.own HK.out (fun x hx e => by have := (own_block HW4'.out.own x hx).1; omega)
      obtain ⟨a5, c5, rfl, hc5, hr5⟩ := own_brd ho5 (by rw [List.length_append, HML.out]; omega) (fun x hx => by rcases List.mem_append.1 hx with h | h <;> exact HMx.out x h)
      have hlen : (M ++ M).length = j + j := by rw [List.length_append, HML.out]
      rw [hlen] at hc5 hs4
      obtain ⟨g5, o5, rfl, _⟩ := hr5.1.2 (by omega)
      have hg5 : g5 < wr.heap.size ∧ w2.heap.size ≤ g5 := by
        have h9 := own_block ho5 g5 (by simp [Value.ownBlock])
        exact ⟨h9.2, h9.1⟩
      have hs5 := hs4.keep HK.out (by omega)
      have HB5 : Hid (Below w.heap.size w wr) := HW4'.out.bel.trans (HK.out.below _ HW4'.out.bel.size (fun x e => by omega))
      have KN : Hid (Calls Tryz.prog 19 #[.pointer (some ⟨w.heap.size, 0, none⟩)] wr fun e w' => ∃ C v, e = .returned (.tuple #[.agg C, .agg #[.int .i64 0, .int .i64 0, v], .bool true]) ∧ Hid (∃ B, wr.heap.size ≤ B ∧ RNt 0 0 n ds C 0 0 v B w') ∧ Hid (∃ d', StrAt w' w.heap.size (.slice (some ⟨g5, o5 + j, none⟩) (j + j - j) (c5 - j)) 0 0 d') ∧ Hid (Keeps (fun x => x = w.heap.size) wr w')) := by
        have h9 := next_note w.heap.size g5 o5 (j + j) c5 0 0 n ds M 0 d5 wr hs5 (by rw [← HM.out]; exact hlen) (by omega) hc5 (by rw [← HM.out]; exact hr5) (HS.out.below HB5.out) HN.out (by omega)
        rw [← HZ.out] at h9
        unfold restV at h9
        rw [if_neg (by omega)] at h9
        exact h9
      have HR5 : Hid (BRd wr (some ⟨g5, o5 + j, none⟩) M) := by
        have h9 := brd_drop (k := j) hr5 (by rw [hlen]; omega)
        rwa [List.drop_left' HML.out] at h9
      have hj0 : j + j - j = j := by omega
      rw [hj0] at KN
      clear hs5 hs4 hr5 ho5 HW4' HY HK HY4 HO4
      go_wp2_with fail
      refine KN.out.mono ?_
      rintro e w6 ⟨C, v6, rfl, HN6, HS6, HK6⟩
      obtain ⟨B6, hB6, ⟨a8, c8, rfl, ho8⟩, _, _, va, vn, vc, rfl⟩ := HN6.out
      obtain ⟨d6, hs6⟩ := HS6.out
      have HR6 := hide (brd_keep HR5.out HK6.out (fun b' o' e => by cases e; omega))
      have HB6 : Hid (Below w.heap.size w w6) := HB5.out.trans (HK6.out.below _ HB5.out.size (fun x e => by omega))
      have hsz6 : wr.heap.size ≤ w6.heap.size := HK6.out.size
      obtain ⟨g8, c8', e8, hg8, hz8⟩ := ho8.form (by omega)
      cases e8
      have HO8 := hide ho8
      have HS6' := hide hs6
      clear KN HN6 HS6 HK6 HR5 HB5 ho8 hs6
      obtain ⟨X1, X3, HRA, hX1, HST, HX3, HLB⟩ := law_boxes w6 (MC.msg 3 0 0 (some ⟨g8, 0, none⟩) n c8) 0 0 va vn vc
      have hX1s := hX1
      obtain ⟨zx3, r0, r1, r2, f0, f1, f2⟩ := HX3.out
      have y24 : X3.cell? ⟨w6.heap.size, 24, none⟩ = some (.slice (some ⟨g8, 0, none⟩) n c8) := by
        have h9 := range_of HLB.out.bM 24 _ rfl
        simpa [go_sem] using h9
      have zy : w6.heap.size < X3.heap.size := by omega
      go_wp2_with (first | (refine keptM_alloc_intro _ HRA.out ?_; rw [hX1s] at *) | (refine keptM_store_intro _ _ (.pointer (some ⟨w6.heap.size, 0, none⟩)) (.agg (msgC 3 0 0 (.slice (some ⟨g8, 0, none⟩) n c8))) (by rfl) (by rfl) HST.out ?_))
      generalize ((X3.setCell ⟨w6.heap.size + 1, 0, none⟩ (.int .i64 0)).setCell ⟨w6.heap.size + 1, 1, none⟩ (.int .i64 0)).setCell ⟨w6.heap.size + 1, 2, none⟩ (.slice va vn vc) = V1 at *
      clear HRA hX1 hX1s HST HX3 zx3 r0 r1 r2 f0 f1 f2 y24 zy
      have hr8 : BRd w6 (some ⟨g8, 0, none⟩) ds := by
        have h9 := HO8.out
        rw [← HN.out] at h9
        obtain ⟨a9, c9, e9, _, h8⟩ := own_brd h9 (by rw [HN.out]; omega) HD.out.2
        cases e9
        exact h8
      have HBV : Hid (Below w.heap.size w V1) := HB6.out.trans (HLB.out.bel.mono HB6.out.size)
      have KS : Hid (∀ (g c : Nat) (W : World), Below w.heap.size w W → BRd W (some ⟨g, 0, none⟩) ds → Calls Tryz.prog 15 #[.slice (some ⟨g, 0, none⟩) n c, .slice (some ⟨g0, o0, none⟩) n c0] W fun e w' => e = .returned (.bool true) ∧ ∃ m, w' = W.drewN m) := fun g c W hb hr => by
        have h9 := samed_any (some ⟨g, 0, none⟩) (some ⟨g0, o0, none⟩) c c0 ds ds W (by rw [HN.out]; omega) hr (HD.out.below hb)
        rw [HN.out, decide_eq_true rfl] at h9
        exact h9
      refine (KS.out g8 c8 V1 HBV.out (hr8.below HLB.out.bel)).mono ?_
      rintro e w7 ⟨rfl, m7, hm7⟩
      have b67 : Below w6.heap.size w6 w7 := by rw [hm7]; exact below_drewN HLB.out.bel m7
      have y24 : w7.cell? ⟨w6.heap.size, 24, none⟩ = some (.slice (some ⟨g8, 0, none⟩) n c8) := by rw [hm7, cell_drewN]; exact range_of HLB.out.bM 24 _ rfl
      have zy : w6.heap.size < w7.heap.size := World.block_lt_of_cell? w7 _ y24
      obtain ⟨⟨x8, hx8, cx8⟩, fx8⟩ := byts_own (own_later HO8.out b67) HN.out HD.out.2 0 (by omega)
      have zg8 : g8 < w7.heap.size := World.block_lt_of_cell? w7 _ cx8
      have ex8 : IntKind.u8.wrap ((x8 : Int) + 1) = (((x8 + 1) % 256 : Nat) : Int) := by rw [IntKind.wrap_u8]; omega
      have hn0 : (0 : Int) < (n : Int) := by omega
      have k78 : ∀ u, Keeps (fun x => x = g8) w7 (w7.setCell ⟨g8, 0, none⟩ u) := fun u => (Keeps.refl _ w7).setCell g8 0 u (.inl rfl)
      have HS8 : Hid (∀ u, StrAt (w7.setCell ⟨g8, 0, none⟩ u) w.heap.size (.slice (some ⟨g5, o5 + j, none⟩) j (c5 - j)) 0 0 d6) := fun u => (HS6'.out.below b67).keep (k78 u) (by omega)
      have HR8 : Hid (∀ u, BRd (w7.setCell ⟨g8, 0, none⟩ u) (some ⟨g5, o5 + j, none⟩) M) := fun u => brd_keep (HR6.out.below b67) (k78 u) (fun b' o' e => by cases e; omega)
      have HB8 : Hid (∀ u, Below w.heap.size w (w7.setCell ⟨g8, 0, none⟩ u)) := fun u => (HB6.out.trans (b67.mono HB6.out.size)).trans ((k78 u).below _ (by have := HB6.out.size; have := b67.size; omega) (fun x e => by have := HB6.out.size; omega))
      have KN : Hid (∀ u, Calls Tryz.prog 19 #[.pointer (some ⟨w.heap.size, 0, none⟩)] (w7.setCell ⟨g8, 0, none⟩ u) fun e w' => ∃ C v, e = .returned (.tuple #[.agg C, .agg #[.int .i64 0, .int .i64 0, v], .bool true]) ∧ Hid (∃ B, (w7.setCell ⟨g8, 0, none⟩ u).heap.size ≤ B ∧ RNt 0 0 n ds C 0 0 v B w') ∧ Hid (Keeps (fun x => x = w.heap.size) (w7.setCell ⟨g8, 0, none⟩ u) w')) := fun u => by
        have e9 : (noteB 0 0 ds ++ []).length = j := by rw [List.append_nil, ← HM.out]; exact HML.out
        refine (next_note w.heap.size g5 (o5 + j) j (c5 - j) 0 0 n ds [] 0 d6 (w7.setCell ⟨g8, 0, none⟩ u) (HS8.out u) e9 (by omega) (by omega) (by rw [List.append_nil, ← HM.out]; exact HR8.out u) (HS.out.below (HB8.out u)) HN.out (by omega)).mono ?_
        rintro e w' ⟨C, v, he, h1, _, h3⟩
        exact ⟨C, v, he, h1, h3⟩
      clear HS8 HR8 HR6 HS6' HO8 b67 k78 hr8 HLB hm7 HBV
      go_wp2_with fail
      refine (KN.out _).mono ?_
      rintro e w9 ⟨C9, v9, rfl, HN9, HK9⟩
      have HB9 : Hid (Below w.heap.size w w9) := (HB8.out _).trans (HK9.out.below _ (HB8.out _).size (fun x e => by omega))
      obtain ⟨B9, hB9, ⟨a10, c10, rfl, ho10⟩, _, _, ua, un, uc, rfl⟩ := HN9.out
      obtain ⟨g10, c10', e10, hg10, hz10⟩ := ho10.form (by omega)
      cases e10
      have hr10 : BRd w9 (some ⟨g10, 0, none⟩) ds := by
        have h9 := ho10
        rw [← HN.out] at h9
        obtain ⟨a9, c9, e9, _, h8⟩ := own_brd h9 (by rw [HN.out]; omega) HD.out.2
        cases e9
        exact h8
      have HR10 := hide hr10
      clear KN HN9 HK9 ho10 hr10 y24 zy cx8 fx8 zg8 ex8 HB8
      obtain ⟨Y1, Y3, HRA, hX1, HST, HX3, HLC⟩ := law_boxes w9 (MC.msg 3 0 0 (some ⟨g10, 0, none⟩) n c10) 0 0 ua un uc
      have hX1s := hX1
      obtain ⟨zx3, r0, r1, r2, f0, f1, f2⟩ := HX3.out
      go_wp2_with (first | (refine keptM_alloc_intro _ HRA.out ?_; rw [hX1s] at *) | (refine keptM_store_intro _ _ (.pointer (some ⟨w9.heap.size, 0, none⟩)) (.agg (msgC 3 0 0 (.slice (some ⟨g10, 0, none⟩) n c10))) (by rfl) (by rfl) HST.out ?_))
      generalize ((Y3.setCell ⟨w9.heap.size + 1, 0, none⟩ (.int .i64 0)).setCell ⟨w9.heap.size + 1, 1, none⟩ (.int .i64 0)).setCell ⟨w9.heap.size + 1, 2, none⟩ (.slice ua un uc) = V2 at *
      clear HRA hX1 hX1s HST HX3 zx3 r0 r1 r2 f0 f1 f2
      refine (feed_nil V2 (some ⟨g0, o0, none⟩) n c0).mono ?_
      rintro e wz ⟨rfl, rfl⟩
      go_wp2_with fail
      refine (next_nil _).mono ?_
      rintro e w11 ⟨rfl, hb11⟩
      have HLC11 := hide (HLC.out.later hb11)
      clear hb11 HLC
      obtain ⟨Z1, Z3, HRA, hX1, HST, HX3, HLE⟩ := law_boxes w11 MC.zero 0 0 none 0 0
      have hX1s := hX1
      obtain ⟨zx3, r0, r1, r2, f0, f1, f2⟩ := HX3.out
      go_wp2_with (first | (refine keptM_alloc_intro _ HRA.out ?_; rw [hX1s] at *) | (refine keptM_store_intro _ _ (.pointer (some ⟨w11.heap.size, 0, none⟩)) (.agg zM) (by rfl) (by rfl) HST.out ?_))
      generalize ((Z3.setCell ⟨w11.heap.size + 1, 0, none⟩ (.int .i64 0)).setCell ⟨w11.heap.size + 1, 1, none⟩ (.int .i64 0)).setCell ⟨w11.heap.size + 1, 2, none⟩ (.slice none 0 0) = V3 at *
      clear HRA hX1 hX1s HST HX3 zx3 r0 r1 r2 f0 f1 f2
      have HLC12 := hide (HLC11.out.later HLE.out.bel)
      have HB12 : Hid (Below w.heap.size w V3) := HB9.out.trans (HLC12.out.bel.mono HB9.out.size)
      clear HLC11 HLE
      refine (sanswers_any V3 (HS.out.below HB12.out)).mono ?_
      rintro e w13 ⟨rfl, hb13⟩
      have HLC13 := hide (HLC12.out.later hb13)
      have HB13 : Hid (Below w.heap.size w w13) := HB12.out.trans (hb13.mono HB12.out.size)
      clear hb13 HLC12 HB12
      have y24 : w13.cell? ⟨w9.heap.size, 24, none⟩ = some (.slice (some ⟨g10, 0, none⟩) n c10) := range_of HLC13.out.bM 24 _ rfl
      have zy : w9.heap.size < w13.heap.size := World.block_lt_of_cell? w13 _ y24
      go_wp2_with fail
      refine (KS.out g10 c10 w13 HB13.out (HR10.out.below HLC13.out.bel)).mono ?_
      rintro e w14 ⟨rfl, m14, hm14⟩
      have HB14 : Hid (Below w.heap.size w w14) := by show Below _ _ _; rw [hm14]; exact below_drewN HB13.out m14
      clear hm14 y24 zy
      go_wp2_with fail
      refine (left_nil w14).mono ?_
      rintro e wy ⟨rfl, rfl⟩
      go_wp2
      go_ret
      exact ⟨rfl, HB14.out⟩
end
theorem streamOwn_walk (a0 : Option Addr) (c0 : Nat) (ds : List Nat) (w : World) (hS : SaidM w) (hd : BRd w a0 ds) :
    Calls Tryz.prog 7 #[.slice a0 ds.length c0] w fun e w' => e = .returned (.bool true) ∧ Below w.heap.size w w' := by
  by_cases h : ds.length = 0 ∨ 100 < ds.length
  · exact own_ans a0 _ c0 w hS h
  · obtain ⟨g, o, rfl, _⟩ := hd.1.2 (by omega)
    exact own_in g o _ c0 ds w hS rfl (by omega) (by omega) hd
end Go.Proofs.YtflhohfeahcnfaaGreatDoor
