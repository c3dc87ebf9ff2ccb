/- What is told of a route's peer: the program's info, isFromOutside, id, isUsable. -/
import Derived.Test.YtolpaimmmhoiiaaDdA
import Derived.Test.YtolpaimmmhoiiaaDcF
import Derived.Test.YtolpaimmmhoiiaaRtU
namespace Go.Proofs.Ytolpaimmmhoiiaa
open Go.RowKit
set_option maxRecDepth 100000

set_option maxHeartbeats 400000 in
theorem info1_any (x : Inf) (X : Nat) (p : Int) (w : World) (hX : w.cell? ⟨X, 2, none⟩ = some (.int .i64 p)) :
    Calls Try.prog 55 #[.agg #[.int .i64 x.peer, .int .i64 x.num, .int .u32 (x.id : Int)], .pointer (some ⟨X, 0, none⟩)] w fun e w' => e = .returned (.bool (x.peer == p)) ∧ Below w.heap.size w w' := by
  have zX := World.block_lt_of_cell? w _ hX
  simp only at zX
  go_enter Try.func55, Try.ntmps55
  go_wp2
  go_ret
  exact ⟨rfl, (Below.refl _ _).alloc (Nat.le_refl _) _⟩
/-- Where the first with that number is. -/
def IdxIs (l : List Inf) (p r : Int) : Prop := (r = -1 ∧ infoL l p = noI) ∨ ∃ (k : Nat) (x : Inf), r = (k : Int) ∧ l[k]? = some x ∧ infoL l p = x
set_option maxHeartbeats 800000 in
theorem iidx_any (a : Option Addr) (c X : Nat) (p : Int) (l : List Inf) (w : World) (hl : l.length ≤ 100000) (h : InfsRd w a l) (hX : w.cell? ⟨X, 2, none⟩ = some (.int .i64 p)) :
    Calls Try.prog 54 #[.slice a l.length c, .func (.func 55) #[] #[.pointer (some ⟨X, 0, none⟩)]] w fun e w' => (∃ r : Int, e = .returned (.int .i64 r) ∧ IdxIs l p r) ∧ Below w.heap.size w w' := by
  have HR := hide h
  have HXX := hide hX
  clear h hX
  obtain ⟨n, hn⟩ : ∃ n, n = l.length := ⟨_, rfl⟩
  rw [← hn] at hl ⊢
  have HN := hide hn
  clear hn
  go_enter Try.func54, Try.ntmps54
  go_wp2
  go_loopw [8] (fun i wq => ∃ k : Nat, k ≤ n ∧ i = .int .i64 k ∧ Hid (∀ (i : Nat) (y : Inf), i < k → l[i]? = some y → y.peer ≠ p) ∧ Hid (Below w.heap.size w wq)) (fun i _ => n - (intOf i).toNat)
  case atStart => exact ⟨0, Nat.zero_le _, rfl, fun i y hi => absurd hi (by omega), Below.refl _ _⟩
  case round =>
    obtain ⟨k, hk, rfl, HA, HB⟩ := hrel
    by_cases hlt : k < n
    · have hkl : k < l.length := by rw [← HN.out]; exact hlt
      obtain ⟨g, o, rfl, hc⟩ := (HR.out.below HB.out) (by omega)
      obtain ⟨c0, c1, c2⟩ := hc k _ (List.getElem?_eq_getElem hkl)
      have HY : Hid (l[k]? = some l[k]) := List.getElem?_eq_getElem hkl
      generalize l[k] = y at *
      have zg := World.block_lt_of_cell? wr _ c0
      simp only at zg
      have hk0 : (0 : Int) ≤ (k : Int) := Int.natCast_nonneg _
      have hkn : (k : Int) < (n : Int) := by omega
      have zX := World.block_lt_of_cell? w _ HXX.out
      simp only at zX
      have HK := hide (info1_any y X p wr (by rw [HB.out.cell (p := ⟨X, 2, none⟩) zX]; exact HXX.out))
      clear hc
      by_cases hp : y.peer = p
      · have HE : Hid (infoL l p = y) := infoL_some l p k y HY.out hp HA.out
        have f1 : (y.peer == p) = true := by simpa using hp
        rw [f1] at HK
        clear hp f1
        go_wp2_with fail
        refine HK.out.mono ?_
        rintro e w2 ⟨rfl, hb2⟩
        have HB2 : Hid (Below w.heap.size w w2) := HB.out.trans (hb2.mono HB.out.size)
        clear hb2 HK c0 c1 c2
        go_wp2
        go_ret
        exact ⟨⟨_, rfl, Or.inr ⟨k, y, rfl, HY.out, HE.out⟩⟩, HB2.out⟩
      · have f1 : (y.peer == p) = false := by simpa using hp
        rw [f1] at HK
        have HA2 : Hid (∀ (i : Nat) (z : Inf), i < k + 1 → l[i]? = some z → z.peer ≠ p) := fun i z hi hz => by
          by_cases e : i = k
          · subst e
            have := HY.out
            rw [hz] at this
            cases this
            exact hp
          · exact HA.out i z (by omega) hz
        clear hp f1
        go_wp2_with fail
        refine HK.out.mono ?_
        rintro e w2 ⟨rfl, hb2⟩
        have HB2 : Hid (Below w.heap.size w w2) := HB.out.trans (hb2.mono HB.out.size)
        clear hb2 HK c0 c1 c2
        go_wp2
        exact ⟨⟨k + 1, by omega, by go_num, HA2, HB2⟩, by simp [intOf]; omega⟩
    · have HE : Hid (infoL l p = noI) := infoL_none l p fun i y hy => HA.out i y (by have := (List.getElem?_eq_some_iff.1 hy).1; have := HN.out; omega) hy
      go_wp2
      go_ret
      exact ⟨⟨_, rfl, Or.inl ⟨rfl, HE.out⟩⟩, HB.out⟩
theorem cell_at {w : World} {X : Nat} {C : Array Value} {t : TypeId} (h : w.heap[X]? = some (.cells C t (0, 0))) (j : Nat) {v : Value} (hv : C[j]? = some v) : w.cell? ⟨X, j, none⟩ = some v := by
  simp [World.cell?, h, hv]
theorem cell_ice {w : World} {X : Nat} {C : Array Value} {t : TypeId} (h : w.heap[X]? = some (.cells C t (0, 0))) (j : Nat) : w.frozen? ⟨X, j, none⟩ = false := by
  simp [World.frozen?, h]
section
attribute [local go_sem ↓] keptR_load keptR_store keptR_box keptR_alloc keptR_build keptA_load
set_option maxHeartbeats 1600000 in
theorem infoq_any (num : Int) (ai : Option Addr) (ci : Nat) (infos : List Inf) (al : Option Addr) (nl cl : Nat) (pa : Option Addr) (pc : Nat) (ca : Option Addr) (cc : Nat) (ra : Option Addr) (rc : Nat) (r : Rt) (w : World) (hl : infos.length ≤ 100000) (h : InfsRd w ai infos) :
    Calls Try.prog 49 #[.agg #[.int .i64 num, .slice ai infos.length ci, .slice al nl cl], .agg (rtC pa pc ca cc ra rc r)] w fun e w' => e = .returned (infV (infoL infos r.peer)) ∧ Below w.heap.size w w' := by
  have HI := hide h
  have K : Hid (∀ X w1, Below w.heap.size w w1 → w1.cell? ⟨X, 2, none⟩ = some (.int .i64 r.peer) → Calls Try.prog 54 #[.slice ai infos.length ci, .func (.func 55) #[] #[.pointer (some ⟨X, 0, none⟩)]] w1 fun e w' => (∃ q : Int, e = .returned (.int .i64 q) ∧ IdxIs infos r.peer q) ∧ Below w1.heap.size w1 w') := fun X w1 hb hX => iidx_any ai ci X r.peer infos w1 hl (h.below hb) hX
  clear h
  obtain ⟨n, hn⟩ : ∃ n, n = infos.length := ⟨_, rfl⟩
  rw [← hn] at hl K ⊢
  have HN := hide hn
  clear hn
  have HIX : Hid (∀ q : Int, IdxIs infos r.peer q → (q = -1 ∧ infoL infos r.peer = noI) ∨ ∃ (k : Nat) (x : Inf), q = (k : Int) ∧ infos[k]? = some x ∧ infoL infos r.peer = x) := fun q h => h
  unfold infV
  generalize hx : infoL infos r.peer = x at *
  clear hx
  go_enter Try.func49, Try.ntmps49
  go_wp2_with fail
  have HB0 : Hid (Below w.heap.size w (w.alloc (.cells #[.int .i64 num, .slice ai n ci, .slice al nl cl] 53))) := (Below.refl _ _).alloc (Nat.le_refl _) _
  have d1 : (w.alloc (.cells #[.int .i64 num, .slice ai n ci, .slice al nl cl] 53)).cell? ⟨w.heap.size, 1, none⟩ = some (.slice ai n ci) := by simp [go_sem]
  have z0 : (w.alloc (.cells #[.int .i64 num, .slice ai n ci, .slice al nl cl] 53)).heap.size = w.heap.size + 1 := by simp
  generalize w.alloc (.cells #[.int .i64 num, .slice ai n ci, .slice al nl cl] 53) = w0 at *
  refine kept_box_intro _ _ _ (by rfl) (run_boxR _ _) ?_
  have c2 : (w0.alloc (.cells (rtC pa pc ca cc ra rc r) 41)).cell? ⟨w0.heap.size, 2, none⟩ = some (.int .i64 r.peer) := (Bl.new w0 _).cell 2 rfl
  have HB1 : Hid (Below w.heap.size w (w0.alloc (.cells (rtC pa pc ca cc ra rc r) 41))) := HB0.out.alloc HB0.out.size _
  have d2 : (w0.alloc (.cells (rtC pa pc ca cc ra rc r) 41)).cell? ⟨w.heap.size, 1, none⟩ = some (.slice ai n ci) := by rw [World.cell?_alloc_lt _ _ _ (by simp <;> omega)]; exact d1
  have z2 : (w0.alloc (.cells (rtC pa pc ca cc ra rc r) 41)).heap.size = w.heap.size + 2 := by simp [z0]
  rw [z0] at c2 ⊢
  clear d1
  generalize w0.alloc (.cells (rtC pa pc ca cc ra rc r) 41) = w1 at *
  clear HB0 z0 w0
  go_wp2_with fail
  refine (K.out (w.heap.size + 1) _ (HB1.out.alloc HB1.out.size _) (by rw [World.cell?_alloc_lt _ _ _ (by simp <;> omega)]; exact c2)).mono ?_
  rintro e w3 ⟨⟨q, rfl, hq⟩, hb⟩
  have HB3 : Hid (Below w.heap.size w w3) := (HB1.out.alloc HB1.out.size _).trans (hb.mono (HB1.out.alloc HB1.out.size _).size)
  have e1 : w3.cell? ⟨w.heap.size, 1, none⟩ = some (.slice ai n ci) := by rw [hb.cell (p := ⟨w.heap.size, 1, none⟩) (by simp; omega), World.cell?_alloc_lt _ _ _ (by simp <;> omega)]; exact d2
  have y1 : w1.heap.size < w3.heap.size := by have := hb.size; simp at this; omega
  have hbl : w3.heap[w.heap.size + 2]? = some (.cells #[.int .i64 0, .int .i64 0, .int .u32 0] 49 (0, 0)) := by
    rw [hb.block _ (by simp; omega)]
    unfold World.alloc
    rw [← z2]
    exact Array.getElem?_push_size
  clear hb K d2 c2
  have f0 : w3.cell? ⟨w.heap.size + 2, 0, none⟩ = some (.int .i64 0) := cell_at hbl 0 rfl
  have f1 : w3.cell? ⟨w.heap.size + 2, 1, none⟩ = some (.int .i64 0) := cell_at hbl 1 rfl
  have f2 : w3.cell? ⟨w.heap.size + 2, 2, none⟩ = some (.int .u32 0) := cell_at hbl 2 rfl
  have g0 := cell_ice hbl 0
  have g1 := cell_ice hbl 1
  have g2 := cell_ice hbl 2
  have y3 : w.heap.size + 2 < w3.heap.size := by omega
  have HS : Hid (∀ (p q : Int) (d : Nat), ∃ w4, w4 = ((w3.setCell ⟨w.heap.size + 2, 0, none⟩ (.int .i64 p)).setCell ⟨w.heap.size + 2, 1, none⟩ (.int .i64 q)).setCell ⟨w.heap.size + 2, 2, none⟩ (.int .u32 (d : Int)) ∧ w4.heap[w.heap.size + 2]? = some (.cells #[.int .i64 p, .int .i64 q, .int .u32 (d : Int)] 49 (0, 0)) ∧ Below w.heap.size w w4) := fun p q d => by
    have h1 := heap_setCell_same w3 _ 0 _ 49 (.int .i64 p) hbl
    have h2 := heap_setCell_same _ _ 1 _ 49 (.int .i64 q) h1
    have h3 := heap_setCell_same _ _ 2 _ 49 (.int .u32 (d : Int)) h2
    exact ⟨_, rfl, h3, ((HB3.out.setCell (by show w.heap.size ≤ w.heap.size + 2; omega) _).setCell (by show w.heap.size ≤ w.heap.size + 2; omega) _).setCell (by show w.heap.size ≤ w.heap.size + 2; omega) _⟩
  clear hbl
  rcases HIX.out q hq with ⟨rfl, he⟩ | ⟨k, y, rfl, hk, he⟩
  · have HE := hide he
    clear hq HIX he
    go_wp2
    obtain ⟨w4, h4, hb4, hl4⟩ := HS.out 0 0 0
    rw [Int.ofNat_zero] at h4 hb4
    rw [← h4]
    clear h4 HS
    refine bodyPost_ret (v := .agg #[.int .i64 0, .int .i64 0, .int .u32 0]) (by simp [results, Try.results49, go_sem, cell_at hb4 0 rfl, cell_at hb4 1 rfl, cell_at hb4 2 rfl]) rfl ⟨by rw [HE.out]; rfl, hl4⟩
  · have hkl := (List.getElem?_eq_some_iff.1 hk).1
    obtain ⟨g, o, rfl, hc⟩ := (HI.out.below HB3.out) (by omega)
    obtain ⟨c0, c1, c2⟩ := hc k y hk
    have HE := hide he
    have zg := World.block_lt_of_cell? w3 _ c0
    simp only at zg
    have hk0 : (0 : Int) ≤ (k : Int) := Int.natCast_nonneg _
    have hkn : (k : Int) < (n : Int) := by have := HN.out; omega
    clear hq HIX he hc hk hkl
    have hneg : decide ((k : Int) < 0) = false := decide_eq_false (by omega)
    go_wp2
    obtain ⟨w4, h4, hb4, hl4⟩ := HS.out y.peer y.num y.id
    rw [← h4]
    clear h4 HS
    refine bodyPost_ret (v := .agg #[.int .i64 y.peer, .int .i64 y.num, .int .u32 (y.id : Int)]) (by simp [results, Try.results49, go_sem, cell_at hb4 0 rfl, cell_at hb4 1 rfl, cell_at hb4 2 rfl]) rfl ⟨by rw [HE.out], hl4⟩
set_option maxHeartbeats 1600000 in
theorem outs_any (num : Int) (ai : Option Addr) (ci : Nat) (infos : List Inf) (al : Option Addr) (nl cl : Nat) (pa : Option Addr) (pc : Nat) (ca : Option Addr) (cc : Nat) (ra : Option Addr) (rc : Nat) (r : Rt) (w : World) (hl : infos.length ≤ 100000) (h : InfsRd w ai infos) :
    Calls Try.prog 30 #[.agg #[.int .i64 num, .slice ai infos.length ci, .slice al nl cl], .agg (rtC pa pc ca cc ra rc r)] w fun e w' => e = .returned (.bool ((infoL infos r.peer).num != num)) ∧ Below w.heap.size w w' := by
  have K : Hid (∀ w1, Below w.heap.size w w1 → Calls Try.prog 49 #[.agg #[.int .i64 num, .slice ai infos.length ci, .slice al nl cl], .agg (rtC pa pc ca cc ra rc r)] w1 fun e w' => e = .returned (infV (infoL infos r.peer)) ∧ Below w1.heap.size w1 w') := fun w1 hb => infoq_any num ai ci infos al nl cl pa pc ca cc ra rc r w1 hl (h.below hb)
  clear h
  unfold infV at K
  generalize infoL infos r.peer = x at *
  generalize infos.length = n at *
  go_enter Try.func30, Try.ntmps30
  go_wp2_with fail
  have HB0 : Hid (Below w.heap.size w (w.alloc (.cells #[.int .i64 num, .slice ai n ci, .slice al nl cl] 53))) := (Below.refl _ _).alloc (Nat.le_refl _) _
  have d0 : (w.alloc (.cells #[.int .i64 num, .slice ai n ci, .slice al nl cl] 53)).cell? ⟨w.heap.size, 0, none⟩ = some (.int .i64 num) := by simp [go_sem]
  have d1 : (w.alloc (.cells #[.int .i64 num, .slice ai n ci, .slice al nl cl] 53)).cell? ⟨w.heap.size, 1, none⟩ = some (.slice ai n ci) := by simp [go_sem]
  have d2 : (w.alloc (.cells #[.int .i64 num, .slice ai n ci, .slice al nl cl] 53)).cell? ⟨w.heap.size, 2, none⟩ = some (.slice al nl cl) := by simp [go_sem]
  have z0 : (w.alloc (.cells #[.int .i64 num, .slice ai n ci, .slice al nl cl] 53)).heap.size = w.heap.size + 1 := by simp
  generalize w.alloc (.cells #[.int .i64 num, .slice ai n ci, .slice al nl cl] 53) = w0 at *
  refine kept_box_intro _ _ _ (by rfl) (run_boxR _ _) ?_
  have HZ : Hid (Bl (w0.alloc (.cells (rtC pa pc ca cc ra rc r) 41)) w0.heap.size (rtC pa pc ca cc ra rc r)) := Bl.new w0 _
  have HB1 : Hid (Below w.heap.size w (w0.alloc (.cells (rtC pa pc ca cc ra rc r) 41))) := HB0.out.alloc HB0.out.size _
  have D0 : (w0.alloc (.cells (rtC pa pc ca cc ra rc r) 41)).cell? ⟨w.heap.size, 0, none⟩ = some (.int .i64 num) := by rw [World.cell?_alloc_lt _ _ _ (by simp <;> omega)]; exact d0
  have D1 : (w0.alloc (.cells (rtC pa pc ca cc ra rc r) 41)).cell? ⟨w.heap.size, 1, none⟩ = some (.slice ai n ci) := by rw [World.cell?_alloc_lt _ _ _ (by simp <;> omega)]; exact d1
  have D2 : (w0.alloc (.cells (rtC pa pc ca cc ra rc r) 41)).cell? ⟨w.heap.size, 2, none⟩ = some (.slice al nl cl) := by rw [World.cell?_alloc_lt _ _ _ (by simp <;> omega)]; exact d2
  have z2 : (w0.alloc (.cells (rtC pa pc ca cc ra rc r) 41)).heap.size = w.heap.size + 2 := by simp [z0]
  rw [z0] at HZ ⊢
  clear d0 d1 d2
  generalize w0.alloc (.cells (rtC pa pc ca cc ra rc r) 41) = w1 at *
  clear HB0 z0 w0
  go_wp2_with fail
  refine region_ord (fun w' => Below (w.heap.size + 2) w1 w') (fun k => k == 2) [0, 1, 4, 5, 2, 3, 6, 7] (by kernel_rfl) (by kernel_rfl) rfl (by kernel_rfl) (z2 ▸ (Below.refl _ _).drew) ?_
  refine ord_q (by rfl) (by rfl) (by rfl) (fun w9 h9 => (by have D0' := D0; have D1' := D1; have D2' := D2; rw [← h9.cell (p := ⟨w.heap.size, 0, none⟩) (by simp only; omega)] at D0'; rw [← h9.cell (p := ⟨w.heap.size, 1, none⟩) (by simp only; omega)] at D1'; rw [← h9.cell (p := ⟨w.heap.size, 2, none⟩) (by simp only; omega)] at D2'; go_simp; first | done | rfl)) (by go_simp; first | done | rfl) ?_
  refine ord_q (by rfl) (by rfl) (by rfl) (fun w9 h9 => exec_loadR (by rfl) (HZ.out.below (z2 ▸ h9)) (RC.rt _ _ _ _ _ _ _)) (by go_simp; first | done | rfl) ?_
  refine ord_q (by rfl) (by rfl) (by rfl) (fun w9 h9 => (by go_simp; first | done | rfl)) (by go_simp; first | done | rfl) ?_
  refine ord_q (by rfl) (by rfl) (by rfl) (fun w9 h9 => (by have D0' := D0; rw [← h9.cell (p := ⟨w.heap.size, 0, none⟩) (by simp only; omega)] at D0'; go_simp; first | done | rfl)) (by go_simp; first | done | rfl) ?_
  refine ord_l (by rfl) (by rfl) (by rfl) ?_
  go_simp
  refine (K.out _ HB1.out.drew).mono ?_
  rintro e w4 ⟨rfl, hb4⟩
  have hb5 : Below (w.heap.size + 2) w1 w4 := z2 ▸ ((Below.refl _ _).drew.trans (hb4.mono (by simp)))
  refine ⟨hb5, ?_⟩
  have HB5 := hide hb5
  clear hb4 hb5 K
  repeat refine ord_q (by rfl) (by rfl) (by rfl) (fun w9 h9 => (by go_simp; first | done | rfl)) (by go_simp; first | done | rfl) ?_
  refine ⟨fun _ h => (by cases h), ?_⟩
  go_wp2
  go_ret
  exact ⟨rfl, HB1.out.trans (HB5.out.mono (by omega))⟩
set_option maxHeartbeats 1600000 in
theorem idq_any (num : Int) (ai : Option Addr) (ci : Nat) (infos : List Inf) (al : Option Addr) (nl cl : Nat) (pa : Option Addr) (pc : Nat) (ca : Option Addr) (cc : Nat) (ra : Option Addr) (rc : Nat) (r : Rt) (w : World) (hl : infos.length ≤ 100000) (h : InfsRd w ai infos) (hid : ∀ x ∈ infos, x.id < 4294967296) :
    Calls Try.prog 31 #[.agg #[.int .i64 num, .slice ai infos.length ci, .slice al nl cl], .agg (rtC pa pc ca cc ra rc r)] w fun e w' => FlRet e ((infoL infos r.peer).id : Int) ∧ Below w.heap.size w w' := by
  have K : Hid (∀ w1, Below w.heap.size w w1 → Calls Try.prog 49 #[.agg #[.int .i64 num, .slice ai infos.length ci, .slice al nl cl], .agg (rtC pa pc ca cc ra rc r)] w1 fun e w' => e = .returned (infV (infoL infos r.peer)) ∧ Below w1.heap.size w1 w') := fun w1 hb => infoq_any num ai ci infos al nl cl pa pc ca cc ra rc r w1 hl (h.below hb)
  have HF : Hid (FlIs (floatOfInt .f64 ((infoL infos r.peer).id : Int)) ((infoL infos r.peer).id : Int)) := FlIs.of _ (by omega) (by have := infoL_id infos r.peer hid; omega)
  clear h hid
  unfold infV at K
  generalize infoL infos r.peer = x at *
  generalize infos.length = n at *
  go_enter Try.func31, Try.ntmps31
  go_wp2_with fail
  have HB0 : Hid (Below w.heap.size w (w.alloc (.cells #[.int .i64 num, .slice ai n ci, .slice al nl cl] 53))) := (Below.refl _ _).alloc (Nat.le_refl _) _
  have d0 : (w.alloc (.cells #[.int .i64 num, .slice ai n ci, .slice al nl cl] 53)).cell? ⟨w.heap.size, 0, none⟩ = some (.int .i64 num) := by simp [go_sem]
  have d1 : (w.alloc (.cells #[.int .i64 num, .slice ai n ci, .slice al nl cl] 53)).cell? ⟨w.heap.size, 1, none⟩ = some (.slice ai n ci) := by simp [go_sem]
  have d2 : (w.alloc (.cells #[.int .i64 num, .slice ai n ci, .slice al nl cl] 53)).cell? ⟨w.heap.size, 2, none⟩ = some (.slice al nl cl) := by simp [go_sem]
  have z0 : (w.alloc (.cells #[.int .i64 num, .slice ai n ci, .slice al nl cl] 53)).heap.size = w.heap.size + 1 := by simp
  generalize w.alloc (.cells #[.int .i64 num, .slice ai n ci, .slice al nl cl] 53) = w0 at *
  refine kept_box_intro _ _ _ (by rfl) (run_boxR _ _) ?_
  have HZ : Hid (Bl (w0.alloc (.cells (rtC pa pc ca cc ra rc r) 41)) w0.heap.size (rtC pa pc ca cc ra rc r)) := Bl.new w0 _
  have HB1 : Hid (Below w.heap.size w (w0.alloc (.cells (rtC pa pc ca cc ra rc r) 41))) := HB0.out.alloc HB0.out.size _
  have D0 : (w0.alloc (.cells (rtC pa pc ca cc ra rc r) 41)).cell? ⟨w.heap.size, 0, none⟩ = some (.int .i64 num) := by rw [World.cell?_alloc_lt _ _ _ (by simp <;> omega)]; exact d0
  have D1 : (w0.alloc (.cells (rtC pa pc ca cc ra rc r) 41)).cell? ⟨w.heap.size, 1, none⟩ = some (.slice ai n ci) := by rw [World.cell?_alloc_lt _ _ _ (by simp <;> omega)]; exact d1
  have D2 : (w0.alloc (.cells (rtC pa pc ca cc ra rc r) 41)).cell? ⟨w.heap.size, 2, none⟩ = some (.slice al nl cl) := by rw [World.cell?_alloc_lt _ _ _ (by simp <;> omega)]; exact d2
  have z2 : (w0.alloc (.cells (rtC pa pc ca cc ra rc r) 41)).heap.size = w.heap.size + 2 := by simp [z0]
  rw [z0] at HZ ⊢
  clear d0 d1 d2
  generalize w0.alloc (.cells (rtC pa pc ca cc ra rc r) 41) = w1 at *
  clear HB0 z0 w0
  go_wp2_with fail
  refine kept_load_intro _ _ _ (by rfl) (run_loadR HZ.out (RC.rt _ _ _ _ _ _ _)) ?_
  go_wp2_with fail
  refine (K.out _ HB1.out).mono ?_
  rintro e w4 ⟨rfl, hb4⟩
  have HB5 : Hid (Below w.heap.size w w4) := HB1.out.trans (hb4.mono (by omega))
  clear hb4 K D0 D1 D2
  have hf2 : ∀ W, (Instr.field 49 (.agg #[.int .i64 x.peer, .int .i64 x.num, .int .u32 (x.id : Int)]) 2).run Try.prog W = .ok (.int .u32 (x.id : Int)) W := fun W => by kernel_rfl
  go_wp2
  go_ret
  exact ⟨FlRet.mk HF.out, HB5.out⟩
set_option maxHeartbeats 1600000 in
theorem free_any (num : Int) (ai : Option Addr) (n ci : Nat) (al : Option Addr) (nl cl : Nat) (pa : Option Addr) (pc : Nat) (ca : Option Addr) (cc : Nat) (ra : Option Addr) (rc : Nat) (r : Rt) (w : World) (hs : r.att.path.length + sumP r.att.path ≤ 100000) (h : PthRd w pa r.att.path) :
    Calls Try.prog 17 #[.agg #[.int .i64 num, .slice ai n ci, .slice al nl cl], .agg (rtC pa pc ca cc ra rc r)] w fun e w' => e = .returned (.bool (!(hasP r.att.path num))) ∧ Below w.heap.size w w' := by
  have K : Hid (∀ w1, Below w.heap.size w w1 → Calls Try.prog 20 #[.agg (rtC pa pc ca cc ra rc r), .int .i64 num] w1 fun e w' => e = .returned (.bool (!(hasP r.att.path num))) ∧ Below w1.heap.size w1 w') := fun w1 hb => usable_any pa pc ca cc ra rc r num w1 hs (h.below hb)
  clear h hs
  generalize (!(hasP r.att.path num)) = y at *
  go_enter Try.func17, Try.ntmps17
  go_wp2_with fail
  have HB0 : Hid (Below w.heap.size w (w.alloc (.cells #[.int .i64 num, .slice ai n ci, .slice al nl cl] 53))) := (Below.refl _ _).alloc (Nat.le_refl _) _
  have d0 : (w.alloc (.cells #[.int .i64 num, .slice ai n ci, .slice al nl cl] 53)).cell? ⟨w.heap.size, 0, none⟩ = some (.int .i64 num) := by simp [go_sem]
  have d1 : (w.alloc (.cells #[.int .i64 num, .slice ai n ci, .slice al nl cl] 53)).cell? ⟨w.heap.size, 1, none⟩ = some (.slice ai n ci) := by simp [go_sem]
  have d2 : (w.alloc (.cells #[.int .i64 num, .slice ai n ci, .slice al nl cl] 53)).cell? ⟨w.heap.size, 2, none⟩ = some (.slice al nl cl) := by simp [go_sem]
  have z0 : (w.alloc (.cells #[.int .i64 num, .slice ai n ci, .slice al nl cl] 53)).heap.size = w.heap.size + 1 := by simp
  generalize w.alloc (.cells #[.int .i64 num, .slice ai n ci, .slice al nl cl] 53) = w0 at *
  refine kept_box_intro _ _ _ (by rfl) (run_boxR _ _) ?_
  have HZ : Hid (Bl (w0.alloc (.cells (rtC pa pc ca cc ra rc r) 41)) w0.heap.size (rtC pa pc ca cc ra rc r)) := Bl.new w0 _
  have HB1 : Hid (Below w.heap.size w (w0.alloc (.cells (rtC pa pc ca cc ra rc r) 41))) := HB0.out.alloc HB0.out.size _
  have D0 : (w0.alloc (.cells (rtC pa pc ca cc ra rc r) 41)).cell? ⟨w.heap.size, 0, none⟩ = some (.int .i64 num) := by rw [World.cell?_alloc_lt _ _ _ (by simp <;> omega)]; exact d0
  have D1 : (w0.alloc (.cells (rtC pa pc ca cc ra rc r) 41)).cell? ⟨w.heap.size, 1, none⟩ = some (.slice ai n ci) := by rw [World.cell?_alloc_lt _ _ _ (by simp <;> omega)]; exact d1
  have D2 : (w0.alloc (.cells (rtC pa pc ca cc ra rc r) 41)).cell? ⟨w.heap.size, 2, none⟩ = some (.slice al nl cl) := by rw [World.cell?_alloc_lt _ _ _ (by simp <;> omega)]; exact d2
  have z2 : (w0.alloc (.cells (rtC pa pc ca cc ra rc r) 41)).heap.size = w.heap.size + 2 := by simp [z0]
  rw [z0] at HZ ⊢
  clear d0 d1 d2
  generalize w0.alloc (.cells (rtC pa pc ca cc ra rc r) 41) = w1 at *
  clear HB0 z0 w0
  go_wp2_with fail
  refine kept_load_intro _ _ _ (by rfl) (run_loadR HZ.out (RC.rt _ _ _ _ _ _ _)) ?_
  go_wp2_with fail
  refine (K.out _ HB1.out).mono ?_
  rintro e w4 ⟨rfl, hb4⟩
  have HB5 : Hid (Below w.heap.size w w4) := HB1.out.trans (hb4.mono (by omega))
  clear hb4 K D0 D1 D2
  go_wp2
  go_ret
  exact ⟨rfl, HB5.out⟩
end
end Go.Proofs.Ytolpaimmmhoiiaa
