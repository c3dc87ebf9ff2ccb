/- The program's appendSegment and Encode. -/
import Derived.Test.YtempaadgheondaaDoorHQg
import Derived.Test.YtempaadgheondaaDoorPthEn
import Derived.Test.YtempaadgheondaaDoorHOne
import Derived.Deep.RegionWith
import Derived.Deep.DrawnRows
namespace Go.Proofs.YtempaadgheondaaDoor
open Go.RowKit
set_option maxRecDepth 100000

theorem byte_val (A k : Nat) : (A : Int) / 2 ^ (8 * (3 - k)) % 256 = ((byteAt A k : Nat) : Int) := by
  unfold byteAt
  have e : (A : Int) / 2 ^ (8 * (3 - k)) = ((A / 2 ^ (8 * (3 - k)) : Nat) : Int) := by simp
  rw [e]
  omega
/-- The first k bytes of a number. -/
def b4up (y k : Nat) : List Nat := (List.range k).map (byteAt y)
theorem b4up_succ (y k : Nat) : b4up y (k + 1) = b4up y k ++ [byteAt y k] := by simp [b4up, List.range_succ]
theorem b4up_length (y k : Nat) : (b4up y k).length = k := by simp [b4up]
section
attribute [local go_sem ↓] Go.wp_at_zero Go.wp_at_succ kept_append
set_option maxHeartbeats 3200000 in
theorem apseg_some (w0 w : World) (B b2 o2 n c : Nat) (sb : Bool) (v : Value) (bs : List Nat) (zs : List Int) (hw0 : w0.heap.size = B) (hb : Below B w0 w) (hn : zs.length = n) (hn255 : n ≤ 255) (hz : ∀ z ∈ zs, 1 ≤ z ∧ z ≤ 4294967295)
    (ho : w.ownsRow B 5 1 v bs.length (bcells bs)) (hl : bs.length ≤ 100000) (hc : ∀ j z, zs[j]? = some z → w0.cell? ⟨b2, o2 + j, none⟩ = some (.int .i64 z)) :
    Calls Tryd.prog 67 #[v, segV sb (some ⟨b2, o2, none⟩) n c] w fun e w' => ∃ v', e = .returned v' ∧ w'.ownsRow B 5 1 v' (bs ++ encSeg (sb, zs)).length (bcells (bs ++ encSeg (sb, zs))) ∧ Below B w w' := by
  have hBw : B ≤ w.heap.size := by have := hb.size; omega
  have hnb : v.ownBlock ≠ some w.heap.size := fun e => by have := (own_block ho _ e).2; omega
  have hoa := ho.alloc (.cells #[.bool sb, .slice (some ⟨b2, o2, none⟩) n c] 46)
  obtain ⟨v1, w1, hr1, ho1, hb1, hk1⟩ := more_bytes hoa (by simp; omega) [kindOf sb, n] 2 #[.int .u8 ((kindOf sb : Nat) : Int), .int .u8 (n : Int)] rfl (by omega) rfl (by omega)
  have q1 : w1.cell? ⟨w.heap.size, 1, none⟩ = some (.slice (some ⟨b2, o2, none⟩) n c) := by
    rw [World.cell?_of_block (w := w.alloc (.cells #[.bool sb, .slice (some ⟨b2, o2, none⟩) n c] 46)) (hk1 w.heap.size (by simp) hnb)]
    simp [go_sem]
  rw [World.size_alloc] at hr1
  have HR1 := hide hr1
  have HO1 : Hid (w1.ownsRow B 5 1 v1 (bs ++ [kindOf sb, n]).length (bcells (bs ++ [kindOf sb, n]))) := ho1
  have HB1 : Hid (Below B w w1) := ((Below.refl _ _).alloc hBw _).trans hb1
  have HBW := hide hb
  have HC := hide hc
  have HN := hide hn
  have HZ := hide hz
  have hsz1 : w.heap.size < w1.heap.size := by have := World.block_lt_of_cell? w1 _ q1; simpa using this
  clear ho hnb hoa hr1 ho1 hb1 hk1 hb hc hn hz
  have hwn : IntKind.u8.wrap (n : Int) = (n : Int) := by rw [IntKind.wrap_u8]; omega
  have HWN := hide hwn
  clear hwn
  have HE : Hid (∀ q, zs.take q = zs → (bs ++ [kindOf sb, n]) ++ nums (zs.take q) = bs ++ encSeg (sb, zs)) := fun q hq => by rw [hq]; unfold encSeg; rw [HN.out, List.append_assoc]
  unfold segV
  go_enter Tryd.func67, Tryd.ntmps67
  cases sb with
  | true =>
    go_wp2_with fail
    refine kept_append_intro _ _ v (.slice (some ⟨w.heap.size + 1, 0, none⟩) 2 2) v1 rfl rfl (by exact HR1.out) ?_
    clear HR1
    go_wp2
    go_loopw [0, 22] (fun u i wq => ∃ q : Nat, q ≤ n ∧ i = .int .i64 q ∧ Hid (wq.ownsRow B 5 1 u (bs ++ [kindOf true, n] ++ nums (zs.take q)).length (bcells (bs ++ [kindOf true, n] ++ nums (zs.take q)))) ∧ Hid (Below B w wq)) (fun _ i _ => n - (intOf i).toNat)
    case atStart => exact ⟨0, Nat.zero_le _, rfl, by show World.ownsRow _ _ _ _ _ _ _; rw [List.take_zero, nums, List.append_nil]; exact HO1.out, HB1⟩
    case round =>
      obtain ⟨q, hq, rfl, HO, HB⟩ := hrel
      clear HO1 HB1 q1 hsz1
      by_cases hlq : q < n
      · have hqp : q < zs.length := by rw [HN.out]; exact hlq
        have cz := HC.out q zs[q] (List.getElem?_eq_getElem hqp)
        have z0 := World.block_lt_of_cell? w0 _ cz
        simp only at z0
        have HTQ : Hid (nums (zs.take (q + 1)) = nums (zs.take q) ++ b4 zs[q]) := by show nums (zs.take (q + 1)) = _; rw [List.take_succ_eq_append_getElem hqp, nums_snoc]
        obtain ⟨hz1, hz2⟩ := HZ.out zs[q] (List.getElem_mem hqp)
        have dz : wr.cell? ⟨b2, o2 + q, none⟩ = some (.int .i64 zs[q]) := by
          rw [(HBW.out.trans HB.out).cell (p := ⟨b2, o2 + q, none⟩) (by show b2 < B; omega)]; exact cz
        obtain ⟨y, hy⟩ := Int.eq_ofNat_of_zero_le (show 0 ≤ zs[q] by omega)
        rw [hy] at dz hz1 hz2 HTQ
        have HB4 : Hid (b4 (y : Int) = b4up y 4) := by show b4 (y : Int) = _; unfold b4 b4up; rw [Int.toNat_natCast]
        have hlen : (bs ++ [kindOf true, n] ++ nums (zs.take q)).length ≤ 200000 := by
          simp only [List.length_append, nums_length, List.length_take, List.length_cons, List.length_nil]; omega
        generalize hpre : bs ++ [kindOf true, n] ++ nums (zs.take q) = pre at *
        have HPRE := hide hpre
        clear hy cz hpre hz1 hz2
        have hq0 : (0 : Int) ≤ (q : Int) := Int.natCast_nonneg _
        have hq1 : (q : Int) < (n : Int) := by omega
        go_wp2
        go_loopw [0, 26] (fun u i wq => ∃ k : Nat, k ≤ 4 ∧ i = .int .i64 k ∧ Hid (wq.ownsRow B 5 1 u (pre ++ b4up y k).length (bcells (pre ++ b4up y k))) ∧ Hid (Below B w wq)) (fun _ i _ => 4 - (intOf i).toNat)
        case atStart => exact ⟨0, by omega, rfl, by show World.ownsRow _ _ _ _ _ _ _; rw [show b4up y 0 = [] from rfl, List.append_nil]; exact HO.out, HB⟩
        case round =>
          clear HO HB dz
          obtain ⟨k, hk, rfl, HO, HB⟩ := hrel
          by_cases hk4 : k < 4
          · obtain ⟨v3, w3, hr3, ho3, hb3, _⟩ := more_bytes HO.out (by have := HB.out.size; omega) [byteAt y k] 1 #[.int .u8 ((byteAt y k : Nat) : Int)] rfl (by omega) rfl (by rw [List.length_append, b4up_length]; omega)
            have HR3 := hide hr3
            have HO3 : Hid (w3.ownsRow B 5 1 v3 (pre ++ b4up y (k + 1)).length (bcells (pre ++ b4up y (k + 1)))) := by
              show World.ownsRow _ _ _ _ _ _ _
              rw [b4up_succ, ← List.append_assoc]; exact ho3
            have HB3 : Hid (Below B w w3) := HB.out.trans hb3
            have HV : Hid ((y : Int) / 2 ^ (8 * (3 - k)) % 256 = ((byteAt y k : Nat) : Int)) := byte_val y k
            have hqq : 8 * (3 - k) < 64 := by omega
            generalize hqe : 8 * (3 - k) = qq at *
            generalize hyy : byteAt y k = yy at *
            clear hr3 ho3 hb3 hyy HO HB
            have hk0 : (k : Int) < 4 := by omega
            go_wp2_with fail
            refine (shiftOf_any k _ hk4).mono ?_
            rw [hqe]
            rintro e w9 ⟨rfl, rfl⟩
            go_wp2_with fail
            refine kept_append_intro _ _ _ (.slice (some ⟨w9.heap.size, 0, none⟩) 1 1) v3 (w' := w3) (by rfl) (by rfl) (by rw [HV.out]; exact HR3.out) ?_
            go_wp2
            exact ⟨⟨k + 1, by omega, by go_num, HO3, HB3⟩, by simp [intOf]; omega⟩
          · have hk4e : k = 4 := by omega
            subst hk4e
            go_wp2
            exact ⟨⟨q + 1, by omega, by go_num, by show World.ownsRow _ _ _ _ _ _ _; rw [HTQ.out, HB4.out, ← List.append_assoc, HPRE.out]; exact HO.out, HB⟩, by simp [intOf]; omega⟩
      · have hqe : q = n := by omega
        subst hqe
        go_wp2
        go_ret
        exact ⟨_, rfl, by have h9 := HO.out; rw [HE.out q (List.take_of_length_le (by rw [HN.out]; omega))] at h9; exact h9, HB.out⟩
  | false =>
    go_wp2_with fail
    refine kept_append_intro _ _ v (.slice (some ⟨w.heap.size + 1, 0, none⟩) 2 2) v1 rfl rfl (by exact HR1.out) ?_
    clear HR1
    go_wp2
    go_loopw [0, 22] (fun u i wq => ∃ q : Nat, q ≤ n ∧ i = .int .i64 q ∧ Hid (wq.ownsRow B 5 1 u (bs ++ [kindOf false, n] ++ nums (zs.take q)).length (bcells (bs ++ [kindOf false, n] ++ nums (zs.take q)))) ∧ Hid (Below B w wq)) (fun _ i _ => n - (intOf i).toNat)
    case atStart => exact ⟨0, Nat.zero_le _, rfl, by show World.ownsRow _ _ _ _ _ _ _; rw [List.take_zero, nums, List.append_nil]; exact HO1.out, HB1⟩
    case round =>
      obtain ⟨q, hq, rfl, HO, HB⟩ := hrel
      clear HO1 HB1 q1 hsz1
      by_cases hlq : q < n
      · have hqp : q < zs.length := by rw [HN.out]; exact hlq
        have cz := HC.out q zs[q] (List.getElem?_eq_getElem hqp)
        have z0 := World.block_lt_of_cell? w0 _ cz
        simp only at z0
        have HTQ : Hid (nums (zs.take (q + 1)) = nums (zs.take q) ++ b4 zs[q]) := by show nums (zs.take (q + 1)) = _; rw [List.take_succ_eq_append_getElem hqp, nums_snoc]
        obtain ⟨hz1, hz2⟩ := HZ.out zs[q] (List.getElem_mem hqp)
        have dz : wr.cell? ⟨b2, o2 + q, none⟩ = some (.int .i64 zs[q]) := by
          rw [(HBW.out.trans HB.out).cell (p := ⟨b2, o2 + q, none⟩) (by show b2 < B; omega)]; exact cz
        obtain ⟨y, hy⟩ := Int.eq_ofNat_of_zero_le (show 0 ≤ zs[q] by omega)
        rw [hy] at dz hz1 hz2 HTQ
        have HB4 : Hid (b4 (y : Int) = b4up y 4) := by show b4 (y : Int) = _; unfold b4 b4up; rw [Int.toNat_natCast]
        have hlen : (bs ++ [kindOf false, n] ++ nums (zs.take q)).length ≤ 200000 := by
          simp only [List.length_append, nums_length, List.length_take, List.length_cons, List.length_nil]; omega
        generalize hpre : bs ++ [kindOf false, n] ++ nums (zs.take q) = pre at *
        have HPRE := hide hpre
        clear hy cz hpre hz1 hz2
        have hq0 : (0 : Int) ≤ (q : Int) := Int.natCast_nonneg _
        have hq1 : (q : Int) < (n : Int) := by omega
        go_wp2
        go_loopw [0, 26] (fun u i wq => ∃ k : Nat, k ≤ 4 ∧ i = .int .i64 k ∧ Hid (wq.ownsRow B 5 1 u (pre ++ b4up y k).length (bcells (pre ++ b4up y k))) ∧ Hid (Below B w wq)) (fun _ i _ => 4 - (intOf i).toNat)
        case atStart => exact ⟨0, by omega, rfl, by show World.ownsRow _ _ _ _ _ _ _; rw [show b4up y 0 = [] from rfl, List.append_nil]; exact HO.out, HB⟩
        case round =>
          clear HO HB dz
          obtain ⟨k, hk, rfl, HO, HB⟩ := hrel
          by_cases hk4 : k < 4
          · obtain ⟨v3, w3, hr3, ho3, hb3, _⟩ := more_bytes HO.out (by have := HB.out.size; omega) [byteAt y k] 1 #[.int .u8 ((byteAt y k : Nat) : Int)] rfl (by omega) rfl (by rw [List.length_append, b4up_length]; omega)
            have HR3 := hide hr3
            have HO3 : Hid (w3.ownsRow B 5 1 v3 (pre ++ b4up y (k + 1)).length (bcells (pre ++ b4up y (k + 1)))) := by
              show World.ownsRow _ _ _ _ _ _ _
              rw [b4up_succ, ← List.append_assoc]; exact ho3
            have HB3 : Hid (Below B w w3) := HB.out.trans hb3
            have HV : Hid ((y : Int) / 2 ^ (8 * (3 - k)) % 256 = ((byteAt y k : Nat) : Int)) := byte_val y k
            have hqq : 8 * (3 - k) < 64 := by omega
            generalize hqe : 8 * (3 - k) = qq at *
            generalize hyy : byteAt y k = yy at *
            clear hr3 ho3 hb3 hyy HO HB
            have hk0 : (k : Int) < 4 := by omega
            go_wp2_with fail
            refine (shiftOf_any k _ hk4).mono ?_
            rw [hqe]
            rintro e w9 ⟨rfl, rfl⟩
            go_wp2_with fail
            refine kept_append_intro _ _ _ (.slice (some ⟨w9.heap.size, 0, none⟩) 1 1) v3 (w' := w3) (by rfl) (by rfl) (by rw [HV.out]; exact HR3.out) ?_
            go_wp2
            exact ⟨⟨k + 1, by omega, by go_num, HO3, HB3⟩, by simp [intOf]; omega⟩
          · have hk4e : k = 4 := by omega
            subst hk4e
            go_wp2
            exact ⟨⟨q + 1, by omega, by go_num, by show World.ownsRow _ _ _ _ _ _ _; rw [HTQ.out, HB4.out, ← List.append_assoc, HPRE.out]; exact HO.out, HB⟩, by simp [intOf]; omega⟩
      · have hqe : q = n := by omega
        subst hqe
        go_wp2
        go_ret
        exact ⟨_, rfl, by have h9 := HO.out; rw [HE.out q (List.take_of_length_le (by rw [HN.out]; omega))] at h9; exact h9, HB.out⟩
end
end Go.Proofs.YtempaadgheondaaDoor
/- The program's Encode. -/
namespace Go.Proofs.YtempaadgheondaaDoor
open Go.RowKit
set_option maxRecDepth 100000

set_option maxHeartbeats 1600000 in
theorem encode_some (b off n cap : Nat) (ss : List (Bool × List Int)) (w : World) (hn : ss.length = n) (hg : goodP ss = true) (hc : ∀ i s, ss[i]? = some s → w.cell? ⟨b, off + i * 2, none⟩ = some (.bool s.1) ∧ ∃ a' c', w.cell? ⟨b, off + i * 2 + 1, none⟩ = some (.slice a' s.2.length c') ∧ IRd w a' s.2) :
    Calls Tryd.prog 49 #[.slice (some ⟨b, off, none⟩) n cap] w fun e w' => ∃ v, e = .returned v ∧ w'.ownsRow w.heap.size 5 1 v (encSegs ss).length (bcells (encSegs ss)) ∧ Below w.heap.size w w' := by
  have hn64 : n ≤ 64 := by have := goodP_len hg; omega
  have hs64 := goodP_sum hg
  have HG0 := hide (good_some b off n cap ss w hn (by omega) hc)
  rw [hg] at HG0
  have HC := hide hc
  have HN := hide hn
  have HG := hide hg
  clear hc hn hg
  go_enter Tryd.func49, Tryd.ntmps49
  go_wp2_with fail
  refine HG0.out.mono ?_
  rintro e w1 ⟨rfl, hb1⟩
  have HB1 := hide hb1
  clear hb1 HG0
  go_wp2
  go_loopw [3, 11] (fun u i wq => ∃ k : Nat, k ≤ n ∧ i = .int .i64 k ∧ Hid (wq.ownsRow w.heap.size 5 1 u (encSegs (ss.take k)).length (bcells (encSegs (ss.take k)))) ∧ Hid (Below w.heap.size w wq)) (fun _ i _ => n - (intOf i).toNat)
  case atStart => exact ⟨0, Nat.zero_le _, rfl, own_nil _ _ _ _, HB1⟩
  case round =>
    obtain ⟨k, hk, rfl, HO, HB⟩ := hrel
    clear HB1
    by_cases hlt : k < n
    · have hkp : k < ss.length := by rw [HN.out]; exact hlt
      obtain ⟨c0, a', c', c1, hr⟩ := HC.out k ss[k] (List.getElem?_eq_getElem hkp)
      obtain ⟨g1, g2, g3⟩ := goodP_seg HG.out (List.getElem_mem hkp)
      have z0 := World.block_lt_of_cell? w _ c0
      simp only at z0
      have HT : Hid (encSegs (ss.take (k + 1)) = encSegs (ss.take k) ++ encSeg ss[k]) := by show encSegs (ss.take (k + 1)) = _; rw [List.take_succ_eq_append_getElem hkp, encSegs_snoc]
      have d0 : wr.cell? ⟨b, off + k * 2, none⟩ = some (.bool (ss[k]).1) := by rw [HB.out.cell (p := ⟨b, off + k * 2, none⟩) z0]; exact c0
      have d1 : wr.cell? ⟨b, off + k * 2 + 1, none⟩ = some (.slice a' (ss[k]).2.length c') := by rw [HB.out.cell (p := ⟨b, off + k * 2 + 1, none⟩) z0]; exact c1
      have hel : (encSegs (ss.take k)).length ≤ 100000 := by
        rw [encSegs_length, List.length_take]
        have := sumP_take ss k
        omega
      obtain ⟨b2, o2, rfl, hcz⟩ := hr g1
      have HK : Hid (∀ w2 : World, Below w.heap.size w w2 → w2.ownsRow w.heap.size 5 1 u3 (encSegs (ss.take k)).length (bcells (encSegs (ss.take k))) → Calls Tryd.prog 67 #[u3, segV (ss[k]).1 (some ⟨b2, o2, none⟩) (ss[k]).2.length c'] w2 fun e w' => ∃ v', e = .returned v' ∧ w'.ownsRow w.heap.size 5 1 v' (encSegs (ss.take k) ++ encSeg ss[k]).length (bcells (encSegs (ss.take k) ++ encSeg ss[k])) ∧ Below w.heap.size w2 w') := fun w2 hb2 ho2 =>
        apseg_some w w2 w.heap.size b2 o2 _ c' (ss[k]).1 u3 (encSegs (ss.take k)) (ss[k]).2 rfl hb2 rfl g2 g3 ho2 hel hcz
      rw [← HT.out] at HK
      generalize hsk : ss[k] = s at *
      clear hsk hr c0 c1 hcz g1 g2 g3 HT
      obtain ⟨b1, zs⟩ := s
      simp only at d0 d1 HK
      generalize zs.length = l at *
      have hk0 : (0 : Int) ≤ (k : Int) := Int.natCast_nonneg _
      have hk1 : (k : Int) < (n : Int) := by omega
      have z1 : b < wr.heap.size := Nat.lt_of_lt_of_le z0 HB.out.size
      go_wp2_with fail
      refine (HK.out (wr.alloc (.cells #[.bool b1, .slice (some ⟨b2, o2, none⟩) l c'] 46)) (HB.out.alloc HB.out.size _) (HO.out.alloc _)).mono ?_
      rintro e w2 ⟨v2, rfl, ho2, hb2⟩
      have HO2 := hide ho2
      have HB2 : Hid (Below w.heap.size w w2) := (HB.out.alloc HB.out.size _).trans hb2
      clear ho2 hb2 HK HO HB
      go_wp2
      exact ⟨⟨k + 1, by omega, by go_num, HO2, HB2⟩, by simp [intOf]; omega⟩
    · have hkl : ss.take k = ss := List.take_of_length_le (by rw [HN.out]; omega)
      rw [hkl] at HO
      go_wp2
      go_ret
      exact ⟨_, rfl, HO.out, HB.out⟩
set_option maxHeartbeats 400000 in
theorem encode_empty (a : Option Addr) (cap : Nat) (w : World) : Calls Tryd.prog 49 #[.slice a 0 cap] w fun e w' => ∃ v, e = .returned v ∧ w'.ownsRow w.heap.size 5 1 v 0 [] ∧ Below w.heap.size w w' := by
  have HG0 := hide (good_empty a cap w)
  go_enter Tryd.func49, Tryd.ntmps49
  go_wp2_with fail
  refine HG0.out.mono ?_
  rintro e w1 ⟨rfl, hb1⟩
  have HB1 := hide hb1
  clear hb1 HG0
  go_wp2
  go_loop [3, 11] (fun u i => i = .int .i64 0 ∧ u = .slice none 0 0) (fun _ i => 0 - (intOf i).toNat)
  case atStart => exact ⟨rfl, rfl⟩
  case round =>
    obtain ⟨rfl, rfl⟩ := hrel
    go_wp2
    go_ret
    exact ⟨_, rfl, own_nil _ _ _ _, HB1.out⟩
set_option maxHeartbeats 400000 in
theorem encode_bad (a : Option Addr) (cap : Nat) (ss : List (Bool × List Int)) (w : World) (hsum : ss.length + sumP ss ≤ 100000) (h : PthRd w a ss) (hg : goodP ss = false) : Calls Tryd.prog 49 #[.slice a ss.length cap] w fun e w' => ∃ v, e = .returned v ∧ w'.ownsRow w.heap.size 5 1 v 0 [] ∧ Below w.heap.size w w' := by
  have HG0 := hide (good_any a cap ss w hsum h)
  rw [hg] at HG0
  clear h hsum hg
  generalize ss.length = n at *
  go_enter Tryd.func49, Tryd.ntmps49
  go_wp2_with fail
  refine HG0.out.mono ?_
  rintro e w1 ⟨rfl, hb1⟩
  have HB1 := hide hb1
  clear hb1 HG0
  go_wp2
  go_ret
  exact ⟨_, rfl, own_nil _ _ _ _, HB1.out⟩
theorem encode_any (a : Option Addr) (cap : Nat) (ss : List (Bool × List Int)) (w : World) (hsum : ss.length + sumP ss ≤ 100000) (h : PthRd w a ss) : Calls Tryd.prog 49 #[.slice a ss.length cap] w fun e w' => ∃ v, e = .returned v ∧ w'.ownsRow w.heap.size 5 1 v (encPath ss).length (bcells (encPath ss)) ∧ Below w.heap.size w w' := by
  cases hg : goodP ss with
  | true =>
    rw [show encPath ss = encSegs ss from by unfold encPath; rw [hg]; rfl]
    by_cases h0 : ss = []
    · subst h0; exact encode_empty a cap w
    · obtain ⟨b, off, rfl, hc⟩ := h.cells (List.length_pos_iff.2 h0)
      exact encode_some b off _ cap ss w rfl hg hc
  | false =>
    rw [show encPath ss = [] from by unfold encPath; rw [hg]; rfl]
    exact encode_bad a cap ss w hsum h hg
end Go.Proofs.YtempaadgheondaaDoor
