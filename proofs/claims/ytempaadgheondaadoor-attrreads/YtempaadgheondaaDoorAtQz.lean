/- The program's Encode of attributes. -/
import Derived.Test.YtempaadgheondaaDoorAtQk
import Derived.Test.YtempaadgheondaaDoorHMix
import Derived.Test.YtempaadgheondaaDoorHGood
namespace Go.Proofs.YtempaadgheondaaDoor
open Go.RowKit
set_option maxRecDepth 100000

theorem flatA_take (P : List (Nat × Nat × List Nat)) (k : Nat) (hk : k < P.length) : flatA (P.take (k + 1)) = flatA (P.take k) ++ oneB P[k].1 P[k].2.1 P[k].2.2 := by
  rw [List.take_succ_eq_append_getElem hk, flatA_app]
  unfold flatA
  simp [flatA]
theorem flatA_le (P : List (Nat × Nat × List Nat)) (k : Nat) : (flatA (P.take k)).length ≤ (flatA P).length := by
  conv => rhs; rw [← List.take_append_drop k P, flatA_app, List.length_append]
  omega
section
attribute [local go_sem ↓] Go.wp_at_zero Go.wp_at_succ kept_appendR
set_option maxHeartbeats 3200000 in
theorem enca_good (o : Int) (pa : Option Addr) (pn pc nx : Nat) (md pf : Int) (ca : Option Addr) (cn cc : Nat) (ra : Option Addr) (rn rc : Nat) (w : World) (P : List (Nat × Nat × List Nat)) (KL raws : List (Int × Int × List Nat)) (np : Nat)
    (KG : Hid (∀ W, Below w.heap.size w W → Calls Tryd.prog 12 #[.agg #[.int .i64 o, .slice pa pn pc, .int .u32 (nx : Int), .int .i64 md, .int .i64 pf, .slice ca cn cc, .slice ra rn rc]] W fun e w' => e = .returned (.bool true) ∧ Below W.heap.size W w'))
    (KK : Hid (∀ W, Below w.heap.size w W → Calls Tryd.prog 21 #[.agg #[.int .i64 o, .slice pa pn pc, .int .u32 (nx : Int), .int .i64 md, .int .i64 pf, .slice ca cn cc, .slice ra rn rc]] W fun e w' => ∃ p c, e = .returned (.slice p KL.length c) ∧ OwnRaws w' W.heap.size (.slice p KL.length c) KL ∧ Below W.heap.size W w'))
    (hKL : 0 < KL.length) (hnp : KL.length + raws.length = np) (hlen : np ≤ 100000) (hR : RawRd w ra raws) (hrn : raws.length = rn) (hperm : (P.map partI).Perm (KL ++ raws)) (hup : (P.map partI).Pairwise fun x y => x.2.1 < y.2.1)
    (hok : ∀ p ∈ P, p.1 < 240 ∧ p.1 / 16 % 2 = 0 ∧ p.2.1 < 256 ∧ p.2.2.length ≤ 60000 ∧ ∀ x ∈ p.2.2, x < 256) (hfl : (flatA P).length ≤ 300000) :
    Calls Tryd.prog 11 #[.agg #[.int .i64 o, .slice pa pn pc, .int .u32 (nx : Int), .int .i64 md, .int .i64 pf, .slice ca cn cc, .slice ra rn rc]] w fun e w' => ∃ v, e = .returned v ∧ w'.ownsRow w.heap.size 5 1 v (flatA P).length (bcells (flatA P)) ∧ Below w.heap.size w w' := by
  have hPl : P.length = np := by
    have h9 := hperm.length_eq
    rw [List.length_map, List.length_append] at h9
    omega
  have HKS : Hid (∀ W, Below w.heap.size w W → Calls Tryd.prog 21 #[.agg #[.int .i64 o, .slice pa pn pc, .int .u32 (nx : Int), .int .i64 md, .int .i64 pf, .slice ca cn cc, .slice ra rn rc]] W fun e w' => ∃ p n c g3 c3 w3, e = .returned (.slice p n c) ∧ Below W.heap.size W w' ∧ (Builtin.append_ #[25, 25] 25 #[.slice p n c, .slice ra rn rc]).run Tryd.prog w' = .ok (.slice (some ⟨g3, 0, none⟩) np c3) w3 ∧ Below W.heap.size W w3 ∧ Calls Tryd.prog 22 #[.slice (some ⟨g3, 0, none⟩) np c3, .func (.func 23) #[] #[]] w3 fun e w4 => e = .returned (.tuple #[]) ∧ RawAt w4 g3 0 (P.map partI) ∧ Below w.heap.size w w4) := fun W hb => (KK.out W hb).mono fun e w' h9 => by
    obtain ⟨p, c, he, hO, hb1⟩ := h9
    have hbw : Below w.heap.size w w' := hb.trans (hb1.mono hb.size)
    obtain ⟨v3, w3, hr3, hm3, hb3⟩ := mix_append (rc := rc) hO rfl hKL hR hbw hb1.size (by omega)
    rw [hrn] at hr3
    have hB3 : Below W.heap.size W w3 := hb1.trans hb3
    obtain ⟨g3, c3, rfl, hs⟩ := mix_sort (n := np) (S := P.map partI) hm3 (by rw [List.length_append]; exact hnp) (by omega) (hb.trans (hB3.mono hb.size)) hb.size hB3.size (by omega) hperm hup (fun r hr => by
      obtain ⟨q, hq, rfl⟩ := List.mem_map.1 (hperm.mem_iff.2 hr)
      obtain ⟨_, _, _, h4, h5⟩ := hok q hq
      exact ⟨by show q.2.2.length ≤ _; omega, h5⟩)
    exact ⟨p, _, c, g3, c3, w3, he, hb1, hr3, hB3, hs.mono fun e w4 h9 => ⟨h9.1, h9.2.1, (hb.trans (hB3.mono hb.size)).trans (h9.2.2.mono hb.size)⟩⟩
  have HPL := hide hPl
  have HOK := hide hok
  have HFL := hide hfl
  clear KK hKL hR hperm hup hPl hok hfl hnp hrn
  go_enter Tryd.func11, Tryd.ntmps11
  go_wp2_with fail
  obtain ⟨wb, hwb⟩ : ∃ wb, wb = w.alloc (.cells #[.int .i64 o, .slice pa pn pc, .int .u32 (nx : Int), .int .i64 md, .int .i64 pf, .slice ca cn cc, .slice ra rn rc] 27) := ⟨_, rfl⟩
  have HBb : Hid (Below w.heap.size w wb) := by show Below _ _ _; rw [hwb]; exact (Below.refl _ _).alloc (Nat.le_refl _) _
  have hPb : w.heap.size < wb.heap.size := by rw [hwb]; simp
  have HCb : Hid (wb.cell? ⟨w.heap.size, 0, none⟩ = some (.int .i64 o) ∧ wb.cell? ⟨w.heap.size, 1, none⟩ = some (.slice pa pn pc) ∧ wb.cell? ⟨w.heap.size, 2, none⟩ = some (.int .u32 (nx : Int)) ∧ wb.cell? ⟨w.heap.size, 3, none⟩ = some (.int .i64 md) ∧ wb.cell? ⟨w.heap.size, 4, none⟩ = some (.int .i64 pf) ∧ wb.cell? ⟨w.heap.size, 5, none⟩ = some (.slice ca cn cc) ∧ wb.cell? ⟨w.heap.size, 6, none⟩ = some (.slice ra rn rc)) := by
    show _ ∧ _
    rw [hwb]
    refine ⟨?_, ?_, ?_, ?_, ?_, ?_, ?_⟩ <;> simp [go_sem]
  rw [← hwb]
  clear hwb
  refine (KG.out wb HBb.out).mono ?_
  rintro e w1 ⟨rfl, hb1⟩
  have HB1 : Hid (Below w.heap.size w w1) := HBb.out.trans (hb1.mono HBb.out.size)
  have hP1 : w.heap.size < w1.heap.size := Nat.lt_of_lt_of_le hPb hb1.size
  have HC1 : Hid (w1.cell? ⟨w.heap.size, 0, none⟩ = some (.int .i64 o) ∧ w1.cell? ⟨w.heap.size, 1, none⟩ = some (.slice pa pn pc) ∧ w1.cell? ⟨w.heap.size, 2, none⟩ = some (.int .u32 (nx : Int)) ∧ w1.cell? ⟨w.heap.size, 3, none⟩ = some (.int .i64 md) ∧ w1.cell? ⟨w.heap.size, 4, none⟩ = some (.int .i64 pf) ∧ w1.cell? ⟨w.heap.size, 5, none⟩ = some (.slice ca cn cc) ∧ w1.cell? ⟨w.heap.size, 6, none⟩ = some (.slice ra rn rc)) := by
    obtain ⟨h0, h1, h2, h3, h4, h5, h6⟩ := HCb.out
    have k : ∀ j, w1.cell? ⟨w.heap.size, j, none⟩ = wb.cell? ⟨w.heap.size, j, none⟩ := fun j => hb1.cell (p := ⟨w.heap.size, j, none⟩) hPb
    exact ⟨by rw [k]; exact h0, by rw [k]; exact h1, by rw [k]; exact h2, by rw [k]; exact h3, by rw [k]; exact h4, by rw [k]; exact h5, by rw [k]; exact h6⟩
  have HSB : Hid (∀ X, Below w1.heap.size w1 X → X.cell? ⟨w.heap.size, 0, none⟩ = some (.int .i64 o) ∧ X.cell? ⟨w.heap.size, 1, none⟩ = some (.slice pa pn pc) ∧ X.cell? ⟨w.heap.size, 2, none⟩ = some (.int .u32 (nx : Int)) ∧ X.cell? ⟨w.heap.size, 3, none⟩ = some (.int .i64 md) ∧ X.cell? ⟨w.heap.size, 4, none⟩ = some (.int .i64 pf) ∧ X.cell? ⟨w.heap.size, 5, none⟩ = some (.slice ca cn cc) ∧ X.cell? ⟨w.heap.size, 6, none⟩ = some (.slice ra rn rc)) := fun X hb => by
    obtain ⟨h0, h1, h2, h3, h4, h5, h6⟩ := HC1.out
    have k : ∀ j, X.cell? ⟨w.heap.size, j, none⟩ = w1.cell? ⟨w.heap.size, j, none⟩ := fun j => hb.cell (p := ⟨w.heap.size, j, none⟩) hP1
    exact ⟨by rw [k]; exact h0, by rw [k]; exact h1, by rw [k]; exact h2, by rw [k]; exact h3, by rw [k]; exact h4, by rw [k]; exact h5, by rw [k]; exact h6⟩
  have HKD : Hid (Calls Tryd.prog 21 #[.agg #[.int .i64 o, .slice pa pn pc, .int .u32 (nx : Int), .int .i64 md, .int .i64 pf, .slice ca cn cc, .slice ra rn rc]] w1.drew fun e w' => ∃ p n c g3 c3 w3, e = .returned (.slice p n c) ∧ Below w1.heap.size w1 w' ∧ (Builtin.append_ #[25, 25] 25 #[.slice p n c, .slice ra rn rc]).run Tryd.prog w' = .ok (.slice (some ⟨g3, 0, none⟩) np c3) w3 ∧ Below w1.heap.size w1 w3 ∧ Calls Tryd.prog 22 #[.slice (some ⟨g3, 0, none⟩) np c3, .func (.func 23) #[] #[]] w3 fun e w4 => e = .returned (.tuple #[]) ∧ RawAt w4 g3 0 (P.map partI) ∧ Below w.heap.size w w4) := (HKS.out w1.drew HB1.out.drew).mono fun e w' h9 => by
    obtain ⟨p, n, c, g3, c3, w3, h1, h2, h3, h4, h5⟩ := h9
    exact ⟨p, n, c, g3, c3, w3, h1, ((Below.refl _ _).drew).trans h2, h3, ((Below.refl _ _).drew).trans h4, h5⟩
  have HSd := hide (HSB.out w1.drew (Below.refl _ _).drew)
  clear hb1 HCb HKS KG
  go_upto_region 3 with fail
  go_cut [3] (fun v wq => ∃ g3 c3, v = .slice (some ⟨g3, 0, none⟩) np c3 ∧ Hid (Calls Tryd.prog 22 #[.slice (some ⟨g3, 0, none⟩) np c3, .func (.func 23) #[] #[]] wq fun e w4 => e = .returned (.tuple #[]) ∧ RawAt w4 g3 0 (P.map partI) ∧ Below w.heap.size w w4))
  case first =>
    go_region_held3 (fun w' => w'.cell? ⟨w.heap.size, 0, none⟩ = some (.int .i64 o) ∧ w'.cell? ⟨w.heap.size, 1, none⟩ = some (.slice pa pn pc) ∧ w'.cell? ⟨w.heap.size, 2, none⟩ = some (.int .u32 (nx : Int)) ∧ w'.cell? ⟨w.heap.size, 3, none⟩ = some (.int .i64 md) ∧ w'.cell? ⟨w.heap.size, 4, none⟩ = some (.int .i64 pf) ∧ w'.cell? ⟨w.heap.size, 5, none⟩ = some (.slice ca cn cc) ∧ w'.cell? ⟨w.heap.size, 6, none⟩ = some (.slice ra rn rc))
      (with_reducible first | exact HSd.out | exact HS2.out | exact HS3.out | fail)
      (first
        | (go_at_call 21
           with_reducible refine HKD.out.mono ?_
           rintro e w2 ⟨p2, n2, c2, g3, c3, w3, rfl, hb2, hr3, hb3, hs3⟩
           have HS2 := hide (HSB.out _ hb2)
           have HS3 := hide (HSB.out _ hb3)
           have HR3 := hide hr3
           have HT3 := hide hs3
           clear hb2 hr3 hb3 hs3)
        | (refine kept_appendR_intro _ _ (.slice p2 n2 c2) (.slice ra rn rc) (.slice (some ⟨g3, 0, none⟩) np c3) (w' := w3) (by rfl) (by rfl) (by exact HR3.out) ?_))
    all_goals go_wp2_with fail
    all_goals go_meet
    all_goals exact ⟨_, _, rfl, HT3⟩
  case rest =>
    obtain ⟨g3, c3, rfl, HT⟩ := hcut
    clear HSB HSd HKD HC1
    go_wp2_with fail
    refine HT.out.mono ?_
    rintro e w4 ⟨rfl, hat, hb4⟩
    have HAT := hide hat
    have HB4 := hide hb4
    clear hat hb4 HT HB1
    go_wp2
    go_loopw [4, 19] (fun u i wq => ∃ k : Nat, k ≤ np ∧ i = .int .i64 k ∧ Hid (wq.ownsRow w4.heap.size 5 1 u (flatA (P.take k)).length (bcells (flatA (P.take k)))) ∧ Hid (Below w4.heap.size w4 wq)) (fun _ i _ => np - (intOf i).toNat)
    case atStart => exact ⟨0, Nat.zero_le _, rfl, own_nil _ _ _ _, Below.refl _ _⟩
    case round =>
      obtain ⟨k, hk, rfl, HO, HB⟩ := hrel
      by_cases hlt : k < np
      · have hkp : k < P.length := by rw [HPL.out]; exact hlt
        obtain ⟨e0, e1, a', c', e2, _, hbr⟩ := HAT.out k (partI P[k]) (by rw [List.getElem?_map, List.getElem?_eq_getElem hkp]; rfl)
        obtain ⟨o1, o2, o3, o4, _⟩ := HOK.out P[k] (List.getElem_mem hkp)
        have z0 := World.block_lt_of_cell? w4 _ e0
        simp only at z0
        rw [← HB.out.cell (p := ⟨g3, 0 + k * 3, none⟩) z0] at e0
        rw [← HB.out.cell (p := ⟨g3, 0 + k * 3 + 1, none⟩) z0] at e1
        rw [← HB.out.cell (p := ⟨g3, 0 + k * 3 + 2, none⟩) z0] at e2
        rw [Nat.zero_add] at e0 e1 e2
        have HT : Hid (flatA (P.take k) ++ oneB P[k].1 P[k].2.1 P[k].2.2 = flatA (P.take (k + 1))) := (flatA_take P k hkp).symm
        have HK : Hid (∀ w2 : World, Below w4.heap.size w4 w2 → w2.ownsRow w4.heap.size 5 1 u4 (flatA (P.take k)).length (bcells (flatA (P.take k))) → Calls Tryd.prog 24 #[u4, .agg #[.int .i64 (P[k].1 : Int), .int .i64 (P[k].2.1 : Int), .slice a' P[k].2.2.length c']] w2 fun e w' => ∃ v', e = .returned v' ∧ w'.ownsRow w4.heap.size 5 1 v' (flatA (P.take (k + 1))).length (bcells (flatA (P.take (k + 1)))) ∧ Below w4.heap.size w2 w') := fun w2 hb2 ho2 => by
          rw [← HT.out]
          exact appraw_any w4 u4 (flatA (P.take k)) _ P[k].1 P[k].2.1 a' c' P[k].2.2 _ w2 w4.heap.size hb2.size (Nat.le_refl _) hb2 rfl ho2 (Nat.le_trans (flatA_le P k) HFL.out) o1 o2 o3 rfl o4 hbr
        unfold partI at e0 e1 e2
        simp only at e0 e1 e2
        generalize P[k].1 = f at *
        generalize P[k].2.1 = t at *
        generalize P[k].2.2.length = dn at *
        clear HT hbr o1 o2 o3 o4
        have hk0 : (0 : Int) ≤ (k : Int) := Int.natCast_nonneg _
        have hk1 : (k : Int) < (np : Int) := by omega
        have z1 : g3 < wr.heap.size := Nat.lt_of_lt_of_le z0 HB.out.size
        go_wp2_with fail
        refine (HK.out (wr.alloc (.cells #[.int .i64 (f : Int), .int .i64 (t : Int), .slice a' dn c'] 48)) (HB.out.alloc HB.out.size _) (HO.out.alloc _)).mono ?_
        rintro e w5 ⟨v5, rfl, ho5, hb5⟩
        have HO5 := hide ho5
        have HB5 : Hid (Below w4.heap.size w4 w5) := (HB.out.alloc HB.out.size _).trans hb5
        clear ho5 hb5 HK HO HB
        go_wp2
        exact ⟨⟨k + 1, by omega, by go_num, HO5, HB5⟩, by simp [intOf]; omega⟩
      · have hkl : P.take k = P := List.take_of_length_le (by rw [HPL.out]; omega)
        rw [hkl] at HO
        go_wp2
        go_ret
        exact ⟨_, rfl, own_base HO.out HB4.out.size, HB4.out.trans (HB.out.mono HB4.out.size)⟩
end
theorem encC_lt (l : List Nat) : ∀ x ∈ encC l, x < 256 := nums_small _
theorem parts_ok {a : At} (h : Fine a) (hb : ∀ r ∈ a.raws, ∀ x ∈ r.2.2, x < 256) : ∀ p ∈ partsA a, p.1 < 240 ∧ p.1 / 16 % 2 = 0 ∧ p.2.1 < 256 ∧ p.2.2.length ≤ 60000 ∧ ∀ x ∈ p.2.2, x < 256 := by
  obtain ⟨h1, h2, _, _, _, h6, _⟩ := h.head
  have hps := goodP_sum h2
  have hpl := goodP_len h2
  have hraw : ∀ r ∈ a.raws, (partR r).1 < 240 ∧ (partR r).1 / 16 % 2 = 0 ∧ (partR r).2.1 < 256 ∧ (partR r).2.2.length ≤ 60000 ∧ ∀ x ∈ (partR r).2.2, x < 256 := fun r hr => by
    have hk := of_decide_eq_true (h.raw r hr)
    have hx := hb r hr
    unfold partR
    exact ⟨by show r.1.toNat < 240; omega, by show r.1.toNat / 16 % 2 = 0; omega, by show r.2.1.toNat < 256; omega, by show r.2.2.length ≤ 60000; omega, hx⟩
  intro p hp
  unfold partsA at hp
  simp only [List.mem_append, List.mem_cons, List.not_mem_nil, or_false, List.mem_map, List.mem_filter] at hp
  rcases hp with ((((((rfl | rfl | rfl) | hp) | hp) | ⟨r, ⟨hr, _⟩, rfl⟩) | hp) | ⟨r, ⟨hr, _⟩, rfl⟩)
  · refine ⟨by simp, by simp, by simp, by simp, ?_⟩
    intro x hx
    simp at hx
    omega
  · refine ⟨by simp, by simp, by simp, ?_, encSegs_small a.path (fun s hs => (goodP_seg h2 hs).2.1)⟩
    show (encSegs a.path).length ≤ 60000
    rw [encSegs_length]
    omega
  · exact ⟨by simp, by simp, by simp, by show (b4 _).length ≤ _; rw [b4_length]; omega, b4_lt _⟩
  · split at hp
    · simp at hp
      subst hp
      exact ⟨by simp, by simp, by simp, by show (b4 _).length ≤ _; rw [b4_length]; omega, b4_lt _⟩
    · simp at hp
  · split at hp
    · simp at hp
      subst hp
      exact ⟨by simp, by simp, by simp, by show (b4 _).length ≤ _; rw [b4_length]; omega, b4_lt _⟩
    · simp at hp
  · exact hraw r hr
  · split at hp
    · simp at hp
      subst hp
      refine ⟨by simp, by simp, by simp, by show (encC _).length ≤ _; rw [encC_length]; omega, ?_⟩
      exact encC_lt a.comms
    · simp at hp
  · exact hraw r hr
set_option maxHeartbeats 400000 in
theorem enca_bad (o : Int) (pa : Option Addr) (pn pc nx : Nat) (md pf : Int) (ca : Option Addr) (cn cc : Nat) (ra : Option Addr) (rn rc : Nat) (w : World)
    (KG : Hid (∀ W, Below w.heap.size w W → Calls Tryd.prog 12 #[.agg #[.int .i64 o, .slice pa pn pc, .int .u32 (nx : Int), .int .i64 md, .int .i64 pf, .slice ca cn cc, .slice ra rn rc]] W fun e w' => e = .returned (.bool false) ∧ Below W.heap.size W w')) :
    Calls Tryd.prog 11 #[.agg #[.int .i64 o, .slice pa pn pc, .int .u32 (nx : Int), .int .i64 md, .int .i64 pf, .slice ca cn cc, .slice ra rn rc]] w fun e w' => ∃ v, e = .returned v ∧ w'.ownsRow w.heap.size 5 1 v 0 [] ∧ Below w.heap.size w w' := by
  go_enter Tryd.func11, Tryd.ntmps11
  go_wp2_with fail
  have HBb : Hid (Below w.heap.size w (w.alloc (.cells #[.int .i64 o, .slice pa pn pc, .int .u32 (nx : Int), .int .i64 md, .int .i64 pf, .slice ca cn cc, .slice ra rn rc] 27))) := (Below.refl _ _).alloc (Nat.le_refl _) _
  refine (KG.out _ HBb.out).mono ?_
  rintro e w1 ⟨rfl, hb1⟩
  have HB1 : Hid (Below w.heap.size w w1) := HBb.out.trans (hb1.mono HBb.out.size)
  clear hb1 HBb
  go_wp2
  go_ret
  exact ⟨_, rfl, own_nil _ _ _ _, HB1.out⟩
theorem penca_any (pa : Option Addr) (pc : Nat) (ca : Option Addr) (cc : Nat) (ra : Option Addr) (rc : Nat) (a : At) (w : World) (hS : Said w) (hl : sizeA a ≤ 20000) (h : AtRd w pa ca ra a) (hc : ∀ x ∈ a.comms, x < 4294967296) :
    Calls Tryd.prog 11 #[atV pa pc ca cc ra rc a] w fun e w' => ∃ v, e = .returned v ∧ w'.ownsRow w.heap.size 5 1 v (encA a).length (bcells (encA a)) ∧ Below w.heap.size w w' := by
  have KG := fun W (hb : Below w.heap.size w W) => pgood_any pa pc ca cc ra rc a W (hS.below hb) (by omega) (h.below hb)
  cases hg : goodA a with
  | false =>
    rw [show encA a = [] from by unfold encA; rw [hg]; rfl]
    rw [hg] at KG
    exact enca_bad a.origin pa _ pc a.next a.med a.pref ca _ cc ra _ rc w KG
  | true =>
    have hF : Fine a := ⟨hg, h.next, hc⟩
    obtain ⟨h1, h2, _, h4, h5, h6, _⟩ := hF.head
    have hps := goodP_sum h2
    have hpl := goodP_len h2
    have hb : ∀ r ∈ a.raws, ∀ x ∈ r.2.2, x < 256 := fun r hr => by
      obtain ⟨i, hi, rfl⟩ := List.mem_iff_getElem.1 hr
      obtain ⟨b, off, _, hat⟩ := h.raws (by omega)
      obtain ⟨_, _, _, _, _, _, h9⟩ := hat i _ (List.getElem?_eq_getElem hi)
      exact h9.2
    rw [hg] at KG
    rw [← flat_parts a hg]
    have hkl : 3 ≤ (knownL a).length ∧ (knownL a).length ≤ 6 := by
      unfold knownL
      simp only [List.length_append, List.length_cons, List.length_nil]
      refine ⟨by omega, ?_⟩
      split <;> split <;> split <;> simp
    have hes : encPath a.path = encSegs a.path := by unfold encPath; rw [h2]; rfl
    unfold sizeA at hl
    refine enca_good a.origin pa _ pc a.next a.med a.pref ca _ cc ra _ rc w (partsA a) (knownL a) a.raws _ KG (fun W hbW => ?_) (by omega) rfl (by omega) h.raws rfl (perm_parts hF) (parts_up hF) (parts_ok hF hb) ?_
    · obtain ⟨o, ho⟩ := Int.eq_ofNat_of_zero_le h1.1
      have hk := known_any o pa a.path.length pc a.next a.med a.pref ca a.comms.length cc ra a.raws.length rc (encSegs a.path) a.comms W (hS.below hbW) (by omega) h.next (by omega) (by omega) rfl (by omega) hc (h.comms.below hbW) (knownL a) (by unfold knownL; rw [ho]; rfl) (fun W2 hb2 => by
        have h9 := encode_any pa pc a.path W2 (by omega) (h.path.below (hbW.trans (hb2.mono hbW.size)))
        rw [hes] at h9
        exact h9)
      rw [← ho] at hk
      refine hk.mono ?_
      rintro e w' ⟨p, n, c, he, hO, _, hb9⟩
      have hn : n = (knownL a).length := by
        obtain ⟨cs, h8, _⟩ := hO
        obtain ⟨a9, c9, e9⟩ := own_shape h8
        simp only [Value.slice.injEq] at e9
        exact e9.2.1
      subst hn
      exact ⟨p, c, he, hO, hb9⟩
    · rw [flat_parts a hg]
      unfold encA
      rw [if_pos hg]
      have q1 := encLo_length a.raws
      have q2 := encHi_length a.raws
      have q3 : (enc123 a).length ≤ 2000 := by
        unfold enc123
        have r1 := oneB_length 64 1 [a.origin.toNat]
        have r2 := oneB_length 64 2 (encSegs a.path)
        have r3 := oneB_length 64 3 (b4 (a.next : Int))
        rw [encSegs_length] at r2
        rw [b4_length] at r3
        simp only [List.length_cons, List.length_nil] at r1
        simp only [List.length_append]
        omega
      have q4 : (enc45 a).length ≤ 100 := by
        unfold enc45
        have r1 := oneB_length 128 4 (b4 a.med)
        have r2 := oneB_length 64 5 (b4 a.pref)
        rw [b4_length] at r1 r2
        rw [List.length_append]
        split <;> split <;> simp <;> omega
      have q5 : (enc8 a).length ≤ 1000 := by
        unfold enc8
        have r1 := oneB_length 192 8 (encC a.comms)
        rw [encC_length] at r1
        split <;> simp <;> omega
      simp only [List.length_append]
      omega
end Go.Proofs.YtempaadgheondaaDoor
