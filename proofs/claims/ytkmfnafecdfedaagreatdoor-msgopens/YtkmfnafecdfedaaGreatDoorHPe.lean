/- The document's GoodPath. -/
import Derived.Test.YtkmfnafecdfedaaGreatDoorPthPl
import Derived.Test.YtkmfnafecdfedaaGreatDoorNumF
namespace Go.Proofs.YtkmfnafecdfedaaGreatDoor
open Go.RowKit
set_option maxRecDepth 100000

set_option maxHeartbeats 1600000 in
theorem rgood_some (b off n cap : Nat) (ss : List (Bool × List Int)) (w : World) (hn : ss.length = n) (hsum : n + sumP ss ≤ 100000) (hc : ∀ i s, ss[i]? = some s → w.cell? ⟨b, off + i * 2, none⟩ = some (.bool s.1) ∧ ∃ a' c', w.cell? ⟨b, off + i * 2 + 1, none⟩ = some (.slice a' s.2.length c') ∧ IRd w a' s.2) :
    Calls Tryz.prog 74 #[.slice (some ⟨b, off, none⟩) n cap] w fun e w' => e = .returned (.bool (goodP ss)) ∧ w' = w := by
  have HC := hide hc
  have HN := hide hn
  clear hc hn
  go_enter Tryz.func74, Tryz.ntmps74
  go_wp2
  go_loop [3, 4] (fun t i => ∃ k x : Nat, k ≤ n ∧ i = .int .i64 k ∧ t = .int .i64 (x : Int) ∧ Hid (x = sumP (ss.take k)) ∧ Hid ((ss.take k).all okS = true)) (fun _ i => n - (intOf i).toNat)
  case atStart => exact ⟨0, 0, Nat.zero_le _, rfl, rfl, rfl, rfl⟩
  case round =>
    obtain ⟨k, x, hk, rfl, rfl, HX, HA⟩ := hrel
    by_cases hlt : k < n
    · have hkp : k < ss.length := by rw [HN.out]; exact hlt
      obtain ⟨c0, a', c', c1, hr⟩ := HC.out k ss[k] (List.getElem?_eq_getElem hkp)
      have HR := hide hr
      clear hr
      have HT : Hid (sumP (ss.take (k + 1)) = sumP (ss.take k) + (ss[k]).2.length) := by show sumP (ss.take (k + 1)) = _; rw [List.take_succ_eq_append_getElem hkp, sumP_snoc]
      have HTA : Hid ((ss.take (k + 1)).all okS = ((ss.take k).all okS && okS ss[k])) := by show (ss.take (k + 1)).all okS = _; rw [List.take_succ_eq_append_getElem hkp]; simp only [List.all_append, List.all_cons, List.all_nil, Bool.and_true]
      have HNO : Hid (okS ss[k] = false → goodP ss = false) := goodP_no (List.getElem_mem hkp)
      have hx : x ≤ 100000 := by have := sumP_take ss k; rw [HX.out]; omega
      have hl : (ss[k]).2.length ≤ 100000 := by have := sumP_mem ss _ (List.getElem_mem hkp); omega
      generalize hsk : ss[k] = s at *
      clear hsk
      obtain ⟨b1, zs⟩ := s
      simp only at hl c1 c0
      generalize hll : zs.length = l at *
      have HLL := hide hll
      clear hll
      have hk0 : (0 : Int) ≤ (k : Int) := Int.natCast_nonneg _
      have hk1 : (k : Int) < (n : Int) := by omega
      by_cases h1 : l < 1
      · have HG : Hid (goodP ss = false) := HNO.out (okS_len (by show ¬ (1 ≤ zs.length ∧ zs.length ≤ 255); rw [HLL.out]; omega))
        have i1 : (l : Int) < 1 := by omega
        go_wp2
        go_ret
        exact ⟨ret_bool HG.out.symm, rfl⟩
      · by_cases h2 : 255 < l
        · have HG : Hid (goodP ss = false) := HNO.out (okS_len (by show ¬ (1 ≤ zs.length ∧ zs.length ≤ 255); rw [HLL.out]; omega))
          have i1 : decide ((l : Int) < 1) = false := decide_eq_false (by omega)
          have i2 : (255 : Int) < (l : Int) := by omega
          go_wp2
          go_ret
          exact ⟨ret_bool HG.out.symm, rfl⟩
        · have i1 : decide ((l : Int) < 1) = false := decide_eq_false (by omega)
          have i2 : decide ((255 : Int) < (l : Int)) = false := decide_eq_false (by omega)
          have hl255 : l ≤ 255 := by omega
          go_wp2
          go_loop [3, 5] (fun t i => ∃ q y : Nat, q ≤ l ∧ i = .int .i64 q ∧ t = .int .i64 (y : Int) ∧ Hid (y = x + q) ∧ Hid ((zs.take q).all okN = true)) (fun _ i => l - (intOf i).toNat)
          case atStart => exact ⟨0, x, Nat.zero_le _, rfl, rfl, rfl, rfl⟩
          case round =>
            obtain ⟨q, y, hq, rfl, rfl, HY, HQ⟩ := hrel
            have hy : y ≤ 200000 := by rw [HY.out]; omega
            by_cases hlq : q < l
            · have hqp : q < zs.length := by rw [HLL.out]; exact hlq
              obtain ⟨b2, o2, e2, hcz⟩ := HR.out (by show 0 < zs.length; omega)
              subst e2
              have cz := hcz q zs[q] (List.getElem?_eq_getElem hqp)
              have HTQ : Hid ((zs.take (q + 1)).all okN = ((zs.take q).all okN && okN zs[q])) := by show (zs.take (q + 1)).all _ = _; rw [List.take_succ_eq_append_getElem hqp]; simp only [List.all_append, List.all_cons, List.all_nil, Bool.and_true]
              have HZ : Hid (okN zs[q] = false → goodP ss = false) := fun h => HNO.out (okS_num (List.getElem_mem hqp) h)
              clear hcz
              generalize zs[q] = z at *
              have hq0 : (0 : Int) ≤ (q : Int) := Int.natCast_nonneg _
              have hq1 : (q : Int) < (l : Int) := by omega
              by_cases hz1 : z < 1
              · have HG : Hid (goodP ss = false) := HZ.out (decide_eq_false (by omega))
                go_wp2
                go_ret
                exact ⟨ret_bool HG.out.symm, rfl⟩
              · by_cases hz2 : 4294967295 < z
                · have HG : Hid (goodP ss = false) := HZ.out (decide_eq_false (by omega))
                  have j1 : decide (z < 1) = false := decide_eq_false hz1
                  go_wp2
                  go_ret
                  exact ⟨ret_bool HG.out.symm, rfl⟩
                · have j1 : decide (z < 1) = false := decide_eq_false hz1
                  have j2 : decide (4294967295 < z) = false := decide_eq_false hz2
                  have HQ2 : Hid ((zs.take (q + 1)).all okN = true) := by
                    show (zs.take (q + 1)).all okN = true
                    rw [HTQ.out, HQ.out, show okN z = true from decide_eq_true (by omega)]; rfl
                  clear hz1 hz2
                  go_wp2
                  exact ⟨⟨q + 1, y + 1, by omega, by go_num, by go_num, by show y + 1 = x + (q + 1); rw [HY.out]; omega, HQ2⟩, by simp [intOf]; omega⟩
            · have hql : q = l := by omega
              subst hql
              have HS : Hid (okS (b1, zs) = true) := by
                show okS (b1, zs) = true
                have hz := HQ.out
                rw [List.take_of_length_le (by rw [HLL.out]; omega)] at hz
                unfold okS
                rw [hz, decide_eq_true (by show 1 ≤ zs.length ∧ zs.length ≤ 255; rw [HLL.out]; omega)]; rfl
              go_wp2
              exact ⟨⟨k + 1, y, by omega, by go_num, rfl, by show y = _; rw [HT.out, HY.out, HX.out], by show (ss.take (k + 1)).all okS = true; rw [HTA.out, HA.out, HS.out]; rfl⟩, by simp [intOf]; omega⟩
    · have hkl : ss.take k = ss := List.take_of_length_le (by rw [HN.out]; omega)
      rw [hkl] at HX HA
      have HG : Hid (goodP ss = decide (sumP ss ≤ 64)) := by show goodP ss = _; unfold goodP; rw [HA.out, Bool.true_and]
      go_wp2
      go_ret
      exact ⟨ret_bool (by rw [HG.out, HX.out, Bool.eq_iff_iff]; simp; omega), rfl⟩
set_option maxHeartbeats 400000 in
theorem rgood_empty (a : Option Addr) (cap : Nat) (w : World) : Calls Tryz.prog 74 #[.slice a 0 cap] w fun e w' => e = .returned (.bool true) ∧ w' = w := by
  go_enter Tryz.func74, Tryz.ntmps74
  go_wp2
  go_loop [3, 4] (fun t i => i = .int .i64 0 ∧ t = .int .i64 0) (fun _ i => 0 - (intOf i).toNat)
  case atStart => exact ⟨rfl, rfl⟩
  case round =>
    obtain ⟨rfl, rfl⟩ := hrel
    go_wp2
    go_ret
    exact ⟨rfl, rfl⟩
theorem rgood_any (a : Option Addr) (cap : Nat) (ss : List (Bool × List Int)) (w : World) (hsum : ss.length + sumP ss ≤ 100000) (h : PthRd w a ss) : Calls Tryz.prog 74 #[.slice a ss.length cap] w fun e w' => e = .returned (.bool (goodP ss)) ∧ w' = w := by
  by_cases h0 : ss = []
  · subst h0; exact rgood_empty a cap w
  · obtain ⟨b, off, rfl, hc⟩ := h.cells (List.length_pos_iff.2 h0)
    exact rgood_some b off _ cap ss w rfl hsum hc
end Go.Proofs.YtkmfnafecdfedaaGreatDoor
/- A path's bytes, in plain numbers; the document's Path. -/
namespace Go.Proofs.YtkmfnafecdfedaaGreatDoor
open Go.RowKit
set_option maxRecDepth 100000

/-- A number's four bytes. -/
def b4 (z : Int) : List Nat := (List.range 4).map (byteAt z.toNat)
def nums : List Int → List Nat
  | [] => []
  | z :: r => b4 z ++ nums r
theorem nums_snoc (l : List Int) (z : Int) : nums (l ++ [z]) = nums l ++ b4 z := by
  induction l with
  | nil => simp [nums]
  | cons a l ih => simp only [List.cons_append, nums, ih, List.append_assoc]
theorem b4_length (z : Int) : (b4 z).length = 4 := by simp [b4]
theorem nums_length (l : List Int) : (nums l).length = 4 * l.length := by
  induction l with
  | nil => rfl
  | cons a l ih => simp only [nums, List.length_append, b4_length, ih, List.length_cons]; omega
/-- What a segment's kind is. -/
def kindOf (b : Bool) : Nat := if b then 1 else 2
/-- A segment's bytes. -/
def encSeg (s : Bool × List Int) : List Nat := [kindOf s.1, s.2.length] ++ nums s.2
/-- A path's bytes. -/
def encSegs : List (Bool × List Int) → List Nat
  | [] => []
  | s :: r => encSeg s ++ encSegs r
theorem encSegs_snoc (l : List (Bool × List Int)) (s : Bool × List Int) : encSegs (l ++ [s]) = encSegs l ++ encSeg s := by
  induction l with
  | nil => simp [encSegs]
  | cons a l ih => simp only [List.cons_append, encSegs, ih, List.append_assoc]
theorem encSegs_length (l : List (Bool × List Int)) : (encSegs l).length = 2 * l.length + 4 * sumP l := by
  induction l with
  | nil => rfl
  | cons a l ih => simp only [encSegs, encSeg, List.length_append, nums_length, ih, List.length_cons, sumP, List.length_nil]; omega
/-- A path's bytes, none of one that is not good. -/
def encPath (ss : List (Bool × List Int)) : List Nat := if goodP ss then encSegs ss else []
theorem goodP_seg {ss : List (Bool × List Int)} (h : goodP ss = true) {s : Bool × List Int} (hs : s ∈ ss) : 1 ≤ s.2.length ∧ s.2.length ≤ 255 ∧ ∀ z ∈ s.2, 1 ≤ z ∧ z ≤ 4294967295 := by
  unfold goodP at h
  rw [Bool.and_eq_true] at h
  have h1 := List.all_eq_true.1 h.1 s hs
  unfold okS at h1
  rw [Bool.and_eq_true] at h1
  have h2 := of_decide_eq_true h1.1
  exact ⟨h2.1, h2.2, fun z hz => of_decide_eq_true (List.all_eq_true.1 h1.2 z hz)⟩
theorem goodP_sum {ss : List (Bool × List Int)} (h : goodP ss = true) : sumP ss ≤ 64 := by
  unfold goodP at h
  rw [Bool.and_eq_true] at h
  exact of_decide_eq_true h.2
theorem goodP_len {ss : List (Bool × List Int)} (h : goodP ss = true) : ss.length ≤ 64 := by
  have h0 : ∀ l : List (Bool × List Int), (∀ s ∈ l, 1 ≤ s.2.length) → l.length ≤ sumP l := by
    intro l
    induction l with
    | nil => intro _; simp [sumP]
    | cons a l ih =>
      intro hl
      have h1 := hl a (List.mem_cons_self ..)
      have h2 := ih (fun s hs => hl s (List.mem_cons_of_mem _ hs))
      simp only [List.length_cons, sumP]; omega
  have := h0 ss (fun s hs => (goodP_seg h hs).1)
  have := goodP_sum h
  omega
set_option maxHeartbeats 3200000 in
theorem rpath_some (b off n cap : Nat) (ss : List (Bool × List Int)) (w : World) (hn : ss.length = n) (hg : goodP ss = true) (hc : ∀ i s, ss[i]? = some s → w.cell? ⟨b, off + i * 2, none⟩ = some (.bool s.1) ∧ ∃ a' c', w.cell? ⟨b, off + i * 2 + 1, none⟩ = some (.slice a' s.2.length c') ∧ IRd w a' s.2) :
    Calls Tryz.prog 76 #[.slice (some ⟨b, off, none⟩) n cap] w fun e w' => ∃ v, e = .returned v ∧ w'.ownsRow w.heap.size 5 1 v (encSegs ss).length (bcells (encSegs ss)) ∧ Below w.heap.size w w' := by
  have hn64 : n ≤ 64 := by rw [← hn]; exact goodP_len hg
  have HS := hide (goodP_sum hg)
  have HC := hide hc
  have HN := hide hn
  have HG := hide hg
  have HSEG : Hid (∀ s ∈ ss, 1 ≤ s.2.length ∧ s.2.length ≤ 255 ∧ ∀ z ∈ s.2, 1 ≤ z ∧ z ≤ 4294967295) := fun s hs => goodP_seg hg hs
  clear hc hn hg
  go_enter Tryz.func76, Tryz.ntmps76
  go_wp2_with fail
  refine (rgood_some b off n cap ss w HN.out (by have := HS.out; omega) HC.out).mono ?_
  rw [HG.out]
  rintro e w0 ⟨rfl, hw0⟩
  subst hw0
  go_wp2
  go_loopw [3, 4] (fun v i wq => ∃ k : Nat, k ≤ n ∧ i = .int .i64 k ∧ Hid (wq.ownsRow w0.heap.size 5 1 v (encSegs (ss.take k)).length (bcells (encSegs (ss.take k)))) ∧ Hid (Below w0.heap.size w0 wq)) (fun _ i _ => n - (intOf i).toNat)
  case atStart => exact ⟨0, Nat.zero_le _, rfl, ⟨by simp [encSegs, bcells], .inl ⟨rfl, rfl⟩⟩, Below.refl _ _⟩
  case round =>
    obtain ⟨k, hk, rfl, HO, HB⟩ := hrel
    by_cases hlt : k < n
    · have hkp : k < ss.length := by rw [HN.out]; exact hlt
      obtain ⟨x0, a', c', x1, hr⟩ := HC.out k ss[k] (List.getElem?_eq_getElem hkp)
      have HT : Hid (encSegs (ss.take (k + 1)) = encSegs (ss.take k) ++ encSeg ss[k]) := by show encSegs (ss.take (k + 1)) = _; rw [List.take_succ_eq_append_getElem hkp, encSegs_snoc]
      have HLE : Hid ((encSegs (ss.take k)).length ≤ 1000) := by
        show (encSegs (ss.take k)).length ≤ 1000
        rw [encSegs_length]
        have h1 := List.length_take_le k ss
        have h2 := sumP_take ss k
        have h3 := HS.out
        omega
      have HSG := hide (HSEG.out ss[k] (List.getElem_mem hkp))
      have d0 : wr.cell? ⟨b, off + k * 2, none⟩ = some (.bool (ss[k]).1) := by rw [HB.out.cell (p := ⟨b, off + k * 2, none⟩) (World.block_lt_of_cell? w0 _ x0)]; exact x0
      have d1 : wr.cell? ⟨b, off + k * 2 + 1, none⟩ = some (.slice a' (ss[k]).2.length c') := by rw [HB.out.cell (p := ⟨b, off + k * 2 + 1, none⟩) (World.block_lt_of_cell? w0 _ x1)]; exact x1
      have X1 := hide x1
      have HR := hide hr
      clear x0 x1 hr
      generalize ss[k] = s at *
      obtain ⟨b1, zs⟩ := s
      simp only at d0 d1 X1 HR HSG
      have hl1 := HSG.out.1
      have hl2 := HSG.out.2.1
      have HZ := hide HSG.out.2.2
      clear HSG
      generalize hll : zs.length = l at *
      have HLL := hide hll
      clear hll
      have hk0 : (0 : Int) ≤ (k : Int) := Int.natCast_nonneg _
      have hk1 : (k : Int) < (n : Int) := by omega
      obtain ⟨v2, w2, hr2, ho2, hb2⟩ := app_new elemU8 HO.out HB.out.size 2 (bcells [kindOf b1, l]) rfl (bcells_one _) (by have := HLE.out; omega) wr.heap.size rfl
      have HB2 : Hid (Below w0.heap.size w0 w2) := HB.out.trans hb2
      have HO2 : Hid (w2.ownsRow w0.heap.size 5 1 v2 (encSegs (ss.take k) ++ [kindOf b1, l] ++ nums (zs.take 0)).length (bcells (encSegs (ss.take k) ++ [kindOf b1, l] ++ nums (zs.take 0)))) := by
        show w2.ownsRow _ _ _ _ _ _
        rw [List.take_zero, nums, List.append_nil, bcells_app, List.length_append]
        exact ho2
      have HR2 := hide hr2
      have t1 : w2.cell? ⟨b, off + k * 2 + 1, none⟩ = some (.slice a' l c') := by rw [HB2.out.cell (p := ⟨b, off + k * 2 + 1, none⟩) (World.block_lt_of_cell? w0 _ X1.out)]; exact X1.out
      clear hr2 ho2 hb2
      cases b1 with
      | true =>
        go_wp2_with ((with_reducible refine wpl_append _ _ 22 _ (.slice (some ⟨wr.heap.size, 0, none⟩) 2 2) _ ?_ ?_ HR2.out ?_); (· rfl); (· rfl))
        clear t1 d0 d1 HO HB HR2
        go_loopw [3, 6] (fun v i wq => ∃ j : Nat, j ≤ l ∧ i = .int .i64 j ∧ Hid (wq.ownsRow w0.heap.size 5 1 v (encSegs (ss.take k) ++ [kindOf true, l] ++ nums (zs.take j)).length (bcells (encSegs (ss.take k) ++ [kindOf true, l] ++ nums (zs.take j)))) ∧ Hid (Below w0.heap.size w0 wq)) (fun _ i _ => l - (intOf i).toNat)
        case atStart => exact ⟨0, Nat.zero_le _, rfl, HO2, HB2⟩
        case round =>
          clear HO2 HB2
          obtain ⟨j, hj, rfl, HO, HB⟩ := hrel
          have t1 : wr.cell? ⟨b, off + k * 2 + 1, none⟩ = some (.slice a' l c') := by rw [HB.out.cell (p := ⟨b, off + k * 2 + 1, none⟩) (World.block_lt_of_cell? w0 _ X1.out)]; exact X1.out
          by_cases hlj : j < l
          · have hjz : j < zs.length := by rw [HLL.out]; exact hlj
            obtain ⟨b2, o2, rfl, hz⟩ := HR.out (by omega)
            have z0 := hz j zs[j] (List.getElem?_eq_getElem hjz)
            have cz : wr.cell? ⟨b2, o2 + j, none⟩ = some (.int .i64 zs[j]) := by rw [HB.out.cell (p := ⟨b2, o2 + j, none⟩) (World.block_lt_of_cell? w0 _ z0)]; exact z0
            have hzb := HZ.out zs[j] (List.getElem_mem hjz)
            have HTJ : Hid (nums (zs.take (j + 1)) = nums (zs.take j) ++ b4 zs[j]) := by show nums (zs.take (j + 1)) = _; rw [List.take_succ_eq_append_getElem hjz, nums_snoc]
            clear hz z0
            generalize zs[j] = z at *
            obtain ⟨Z, rfl⟩ := Int.eq_ofNat_of_zero_le (show 0 ≤ z by omega)
            have hZ : Z < 4294967296 := by omega
            have hj0 : (0 : Int) ≤ (j : Int) := Int.natCast_nonneg _
            have hj1 : (j : Int) < (l : Int) := by omega
            obtain ⟨v3, w3, hr3, ho3, hb3⟩ := app_new elemU8 HO.out HB.out.size 4 (bcells ((List.range 4).map (byteAt Z))) rfl (bcells_one _) (by
              have h1 := HLE.out
              have h2 := nums_length (zs.take j)
              have h3 := List.length_take_le j zs
              simp only [List.length_append, List.length_cons, List.length_nil]
              omega) wr.heap.size rfl
            have HR3 := hide hr3
            have HB3 : Hid (Below w0.heap.size w0 w3) := HB.out.trans hb3
            have HO3 : Hid (w3.ownsRow w0.heap.size 5 1 v3 (encSegs (ss.take k) ++ [kindOf true, l] ++ nums (zs.take (j + 1))).length (bcells (encSegs (ss.take k) ++ [kindOf true, l] ++ nums (zs.take (j + 1))))) := by
              show w3.ownsRow _ _ _ _ _ _
              rw [HTJ.out, ← List.append_assoc, bcells_app, List.length_append, b4_length]
              exact ho3
            clear hr3 ho3 hb3
            go_wp2_with fail
            refine (four_eq Z _ hZ).mono ?_
            rintro e w9 ⟨rfl, rfl⟩
            go_wp2_with ((with_reducible refine wpl_append _ _ 22 _ (.slice (some ⟨wr.heap.size, 0, none⟩) 4 4) _ ?_ ?_ HR3.out ?_); (· rfl); (· rfl))
            exact ⟨⟨j + 1, by omega, by go_num, HO3, HB3⟩, by simp [intOf]; omega⟩
          · have HOE : Hid (wr.ownsRow w0.heap.size 5 1 u3 (encSegs (ss.take (k + 1))).length (bcells (encSegs (ss.take (k + 1))))) := by
              show wr.ownsRow _ _ _ _ _ _
              have h1 := HO.out
              have hzt : zs.take j = zs := List.take_of_length_le (by rw [HLL.out]; omega)
              rw [hzt] at h1
              rw [HT.out]
              show wr.ownsRow _ _ _ _ (encSegs (ss.take k) ++ ([kindOf true, zs.length] ++ nums zs)).length (bcells (encSegs (ss.take k) ++ ([kindOf true, zs.length] ++ nums zs)))
              rw [HLL.out, ← List.append_assoc]
              exact h1
            go_wp2
            exact ⟨⟨k + 1, by omega, by go_num, HOE, HB⟩, by simp [intOf]; omega⟩
      | false =>
        go_wp2_with ((with_reducible refine wpl_append _ _ 22 _ (.slice (some ⟨wr.heap.size, 0, none⟩) 2 2) _ ?_ ?_ HR2.out ?_); (· rfl); (· rfl))
        clear t1 d0 d1 HO HB HR2
        go_loopw [3, 6] (fun v i wq => ∃ j : Nat, j ≤ l ∧ i = .int .i64 j ∧ Hid (wq.ownsRow w0.heap.size 5 1 v (encSegs (ss.take k) ++ [kindOf false, l] ++ nums (zs.take j)).length (bcells (encSegs (ss.take k) ++ [kindOf false, l] ++ nums (zs.take j)))) ∧ Hid (Below w0.heap.size w0 wq)) (fun _ i _ => l - (intOf i).toNat)
        case atStart => exact ⟨0, Nat.zero_le _, rfl, HO2, HB2⟩
        case round =>
          clear HO2 HB2
          obtain ⟨j, hj, rfl, HO, HB⟩ := hrel
          have t1 : wr.cell? ⟨b, off + k * 2 + 1, none⟩ = some (.slice a' l c') := by rw [HB.out.cell (p := ⟨b, off + k * 2 + 1, none⟩) (World.block_lt_of_cell? w0 _ X1.out)]; exact X1.out
          by_cases hlj : j < l
          · have hjz : j < zs.length := by rw [HLL.out]; exact hlj
            obtain ⟨b2, o2, rfl, hz⟩ := HR.out (by omega)
            have z0 := hz j zs[j] (List.getElem?_eq_getElem hjz)
            have cz : wr.cell? ⟨b2, o2 + j, none⟩ = some (.int .i64 zs[j]) := by rw [HB.out.cell (p := ⟨b2, o2 + j, none⟩) (World.block_lt_of_cell? w0 _ z0)]; exact z0
            have hzb := HZ.out zs[j] (List.getElem_mem hjz)
            have HTJ : Hid (nums (zs.take (j + 1)) = nums (zs.take j) ++ b4 zs[j]) := by show nums (zs.take (j + 1)) = _; rw [List.take_succ_eq_append_getElem hjz, nums_snoc]
            clear hz z0
            generalize zs[j] = z at *
            obtain ⟨Z, rfl⟩ := Int.eq_ofNat_of_zero_le (show 0 ≤ z by omega)
            have hZ : Z < 4294967296 := by omega
            have hj0 : (0 : Int) ≤ (j : Int) := Int.natCast_nonneg _
            have hj1 : (j : Int) < (l : Int) := by omega
            obtain ⟨v3, w3, hr3, ho3, hb3⟩ := app_new elemU8 HO.out HB.out.size 4 (bcells ((List.range 4).map (byteAt Z))) rfl (bcells_one _) (by
              have h1 := HLE.out
              have h2 := nums_length (zs.take j)
              have h3 := List.length_take_le j zs
              simp only [List.length_append, List.length_cons, List.length_nil]
              omega) wr.heap.size rfl
            have HR3 := hide hr3
            have HB3 : Hid (Below w0.heap.size w0 w3) := HB.out.trans hb3
            have HO3 : Hid (w3.ownsRow w0.heap.size 5 1 v3 (encSegs (ss.take k) ++ [kindOf false, l] ++ nums (zs.take (j + 1))).length (bcells (encSegs (ss.take k) ++ [kindOf false, l] ++ nums (zs.take (j + 1))))) := by
              show w3.ownsRow _ _ _ _ _ _
              rw [HTJ.out, ← List.append_assoc, bcells_app, List.length_append, b4_length]
              exact ho3
            clear hr3 ho3 hb3
            go_wp2_with fail
            refine (four_eq Z _ hZ).mono ?_
            rintro e w9 ⟨rfl, rfl⟩
            go_wp2_with ((with_reducible refine wpl_append _ _ 22 _ (.slice (some ⟨wr.heap.size, 0, none⟩) 4 4) _ ?_ ?_ HR3.out ?_); (· rfl); (· rfl))
            exact ⟨⟨j + 1, by omega, by go_num, HO3, HB3⟩, by simp [intOf]; omega⟩
          · have HOE : Hid (wr.ownsRow w0.heap.size 5 1 u3 (encSegs (ss.take (k + 1))).length (bcells (encSegs (ss.take (k + 1))))) := by
              show wr.ownsRow _ _ _ _ _ _
              have h1 := HO.out
              have hzt : zs.take j = zs := List.take_of_length_le (by rw [HLL.out]; omega)
              rw [hzt] at h1
              rw [HT.out]
              show wr.ownsRow _ _ _ _ (encSegs (ss.take k) ++ ([kindOf false, zs.length] ++ nums zs)).length (bcells (encSegs (ss.take k) ++ ([kindOf false, zs.length] ++ nums zs)))
              rw [HLL.out, ← List.append_assoc]
              exact h1
            go_wp2
            exact ⟨⟨k + 1, by omega, by go_num, HOE, HB⟩, by simp [intOf]; omega⟩
    · have hkl : ss.take k = ss := List.take_of_length_le (by rw [HN.out]; omega)
      rw [hkl] at HO
      go_wp2
      go_ret
      exact ⟨_, rfl, HO.out, HB.out⟩
set_option maxHeartbeats 400000 in
theorem rpath_empty (a : Option Addr) (cap : Nat) (w : World) : Calls Tryz.prog 76 #[.slice a 0 cap] w fun e w' => ∃ v, e = .returned v ∧ w'.ownsRow w.heap.size 5 1 v 0 [] ∧ Below w.heap.size w w' := by
  go_enter Tryz.func76, Tryz.ntmps76
  go_wp2_with fail
  refine (rgood_empty a cap w).mono ?_
  rintro e w0 ⟨rfl, hw0⟩
  subst hw0
  go_wp2
  go_loopw [3, 4] (fun v i wq => v = .slice none 0 0 ∧ i = .int .i64 0 ∧ wq = w0) (fun _ i _ => 0 - (intOf i).toNat)
  case atStart => exact ⟨rfl, rfl, rfl⟩
  case round =>
    obtain ⟨rfl, rfl, rfl⟩ := hrel
    go_wp2
    go_ret
    exact ⟨_, rfl, own_nil _ _ _ _, Below.refl _ _⟩
set_option maxHeartbeats 400000 in
theorem rpath_bad (a : Option Addr) (cap : Nat) (ss : List (Bool × List Int)) (w : World) (hsum : ss.length + sumP ss ≤ 100000) (h : PthRd w a ss) (hg : goodP ss = false) : Calls Tryz.prog 76 #[.slice a ss.length cap] w fun e w' => ∃ v, e = .returned v ∧ w'.ownsRow w.heap.size 5 1 v 0 [] ∧ Below w.heap.size w w' := by
  have HC := hide (rgood_any a cap ss w hsum h)
  have HG := hide hg
  clear h hg
  generalize ss.length = n at *
  go_enter Tryz.func76, Tryz.ntmps76
  go_wp2_with fail
  refine HC.out.mono ?_
  rw [HG.out]
  rintro e w0 ⟨rfl, hw0⟩
  subst hw0
  go_wp2
  go_ret
  exact ⟨_, rfl, own_nil _ _ _ _, Below.refl _ _⟩
theorem rpath_any (a : Option Addr) (cap : Nat) (ss : List (Bool × List Int)) (w : World) (hsum : ss.length + sumP ss ≤ 100000) (h : PthRd w a ss) : Calls Tryz.prog 76 #[.slice a ss.length cap] w fun e w' => ∃ v, e = .returned v ∧ w'.ownsRow w.heap.size 5 1 v (encPath ss).length (bcells (encPath ss)) ∧ Below w.heap.size w w' := by
  cases hg : goodP ss with
  | false =>
    have e : encPath ss = [] := by unfold encPath; rw [hg]; rfl
    rw [e]
    exact rpath_bad a cap ss w hsum h hg
  | true =>
    have e : encPath ss = encSegs ss := by unfold encPath; rw [hg]; rfl
    rw [e]
    by_cases h0 : ss = []
    · subst h0; exact rpath_empty a cap w
    · obtain ⟨b, off, rfl, hc⟩ := h.cells (List.length_pos_iff.2 h0)
      exact rpath_some b off _ cap ss w rfl hg hc
end Go.Proofs.YtkmfnafecdfedaaGreatDoor
