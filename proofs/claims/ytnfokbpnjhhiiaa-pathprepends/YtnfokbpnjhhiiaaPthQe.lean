/- The program's appendSegment and Encode. -/
import Derived.Test.YtnfokbpnjhhiiaaPthQg
import Derived.Test.YtnfokbpnjhhiiaaPthEn
import Derived.Deep.RegionWith
import Derived.Deep.DrawnRows
namespace Go.Proofs.Ytnfokbpnjhhiiaa
open Go.RowKit
set_option maxRecDepth 100000

/-- Some bytes more. -/
theorem more_bytes {wq : World} {B : Nat} {v : Value} {bs : List Nat} (ho : wq.ownsRow B 5 1 v bs.length (bcells bs)) (hB : B ≤ wq.heap.size) (ys : List Nat) (m : Nat) (cur : Array Value) (hm : ys.length = m) (hm4 : m ≤ 4) (hcur : cur = (bcells ys).toArray) (hl : bs.length ≤ 900000) :
    ∃ v' w', (Builtin.append_ #[25, 25] 25 #[v, .slice (some ⟨wq.heap.size, 0, none⟩) m m]).run Try.prog (wq.alloc (.cells cur 5)) = .ok v' w' ∧ w'.ownsRow B 5 1 v' (bs ++ ys).length (bcells (bs ++ ys)) ∧ Below B wq w' ∧ ∀ X, X < wq.heap.size → v.ownBlock ≠ some X → w'.heap[X]? = wq.heap[X]? := by
  subst hcur
  obtain ⟨v', w', hr, h2, h3, h4, h5⟩ := app_more elemU8 (w := wq.alloc (.cells (bcells ys).toArray 5)) (ho.alloc _) (by simp; omega) ⟨wq.heap.size, 0, none⟩ m m (bcells ys) (by rw [bcells_length]; omega) (fun j u hu => by
    rw [Addr.add_mid, Nat.zero_add, World.cell?_alloc_mark]
    simpa using hu) (bcells_one _) (by omega)
  refine ⟨v', w', hr, ?_, ((Below.refl _ _).alloc hB _).trans h3, fun X hX hne => ?_⟩
  · rw [bcells_app, List.length_append, hm]; exact h2
  · rw [h4.block X (by simp; omega) (Ne.symm hne)]
    unfold World.alloc
    simp only
    rw [Array.getElem?_push_lt hX, Array.getElem?_eq_getElem hX]
theorem byte_val (A k : Nat) : (A : Int) / 2 ^ (8 * (3 - k)) % 256 = ((byteAt A k : Nat) : Int) := by
  unfold byteAt
  have e : (A : Int) / 2 ^ (8 * (3 - k)) = ((A / 2 ^ (8 * (3 - k)) : Nat) : Int) := by simp
  rw [e]
  omega
/-- The first k bytes of a number. -/
def b4up (y k : Nat) : List Nat := (List.range k).map (byteAt y)
theorem b4up_succ (y k : Nat) : b4up y (k + 1) = b4up y k ++ [byteAt y k] := by simp [b4up, List.range_succ]
theorem b4up_length (y k : Nat) : (b4up y k).length = k := by simp [b4up]
section
attribute [local go_sem ↓] Go.wp_at_zero Go.wp_at_succ kept_append
set_option maxHeartbeats 3200000 in
theorem apseg_some (w0 w : World) (B b2 o2 n c : Nat) (sb : Bool) (v : Value) (bs : List Nat) (zs : List Int) (hw0 : w0.heap.size = B) (hb : Below B w0 w) (hn : zs.length = n) (hn255 : n ≤ 255) (hz : ∀ z ∈ zs, 1 ≤ z ∧ z ≤ 4294967295)
    (ho : w.ownsRow B 5 1 v bs.length (bcells bs)) (hl : bs.length ≤ 100000) (hc : ∀ j z, zs[j]? = some z → w0.cell? ⟨b2, o2 + j, none⟩ = some (.int .i64 z)) :
    Calls Try.prog 26 #[v, segV sb (some ⟨b2, o2, none⟩) n c] w fun e w' => ∃ v', e = .returned v' ∧ w'.ownsRow B 5 1 v' (bs ++ encSeg (sb, zs)).length (bcells (bs ++ encSeg (sb, zs))) ∧ Below B w w' := by
  have hBw : B ≤ w.heap.size := by have := hb.size; omega
  have hnb : v.ownBlock ≠ some w.heap.size := fun e => by have := (own_block ho _ e).2; omega
  have hoa := ho.alloc (.cells #[.bool sb, .slice (some ⟨b2, o2, none⟩) n c] 38)
  obtain ⟨v1, w1, hr1, ho1, hb1, hk1⟩ := more_bytes hoa (by simp; omega) [kindOf sb, n] 2 #[.int .u8 ((kindOf sb : Nat) : Int), .int .u8 (n : Int)] rfl (by omega) rfl (by omega)
  have q1 : w1.cell? ⟨w.heap.size, 1, none⟩ = some (.slice (some ⟨b2, o2, none⟩) n c) := by
    rw [World.cell?_of_block (w := w.alloc (.cells #[.bool sb, .slice (some ⟨b2, o2, none⟩) n c] 38)) (hk1 w.heap.size (by simp) hnb)]
    simp [go_sem]
  rw [World.size_alloc] at hr1
  have HR1 := hide hr1
  have HO1 : Hid (w1.ownsRow B 5 1 v1 (bs ++ [kindOf sb, n]).length (bcells (bs ++ [kindOf sb, n]))) := ho1
  have HB1 : Hid (Below B w w1) := ((Below.refl _ _).alloc hBw _).trans hb1
  have HBW := hide hb
  have HC := hide hc
  have HN := hide hn
  have HZ := hide hz
  have hsz1 : w.heap.size < w1.heap.size := by have := World.block_lt_of_cell? w1 _ q1; simpa using this
  clear ho hnb hoa hr1 ho1 hb1 hk1 hb hc hn hz
  have hwn : IntKind.u8.wrap (n : Int) = (n : Int) := by rw [IntKind.wrap_u8]; omega
  have HWN := hide hwn
  clear hwn
  have HE : Hid (∀ q, zs.take q = zs → (bs ++ [kindOf sb, n]) ++ nums (zs.take q) = bs ++ encSeg (sb, zs)) := fun q hq => by rw [hq]; unfold encSeg; rw [HN.out, List.append_assoc]
  unfold segV
  go_enter Try.func26, Try.ntmps26
  cases sb with
  | true =>
    go_wp2_with fail
    refine kept_append_intro _ _ v (.slice (some ⟨w.heap.size + 1, 0, none⟩) 2 2) v1 rfl rfl (by exact HR1.out) ?_
    clear HR1
    go_wp2
    go_loopw [0, 22] (fun u i wq => ∃ q : Nat, q ≤ n ∧ i = .int .i64 q ∧ Hid (wq.ownsRow B 5 1 u (bs ++ [kindOf true, n] ++ nums (zs.take q)).length (bcells (bs ++ [kindOf true, n] ++ nums (zs.take q)))) ∧ Hid (Below B w wq)) (fun _ i _ => n - (intOf i).toNat)
    case atStart => exact ⟨0, Nat.zero_le _, rfl, by show World.ownsRow _ _ _ _ _ _ _; rw [List.take_zero, nums, List.append_nil]; exact HO1.out, HB1⟩
    case round =>
      obtain ⟨q, hq, rfl, HO, HB⟩ := hrel
      clear HO1 HB1 q1 hsz1
      by_cases hlq : q < n
      · have hqp : q < zs.length := by rw [HN.out]; exact hlq
        have cz := HC.out q zs[q] (List.getElem?_eq_getElem hqp)
        have z0 := World.block_lt_of_cell? w0 _ cz
        simp only at z0
        have HTQ : Hid (nums (zs.take (q + 1)) = nums (zs.take q) ++ b4 zs[q]) := by show nums (zs.take (q + 1)) = _; rw [List.take_succ_eq_append_getElem hqp, nums_snoc]
        obtain ⟨hz1, hz2⟩ := HZ.out zs[q] (List.getElem_mem hqp)
        have dz : wr.cell? ⟨b2, o2 + q, none⟩ = some (.int .i64 zs[q]) := by
          rw [(HBW.out.trans HB.out).cell (p := ⟨b2, o2 + q, none⟩) (by show b2 < B; omega)]; exact cz
        obtain ⟨y, hy⟩ := Int.eq_ofNat_of_zero_le (show 0 ≤ zs[q] by omega)
        rw [hy] at dz hz1 hz2 HTQ
        have HB4 : Hid (b4 (y : Int) = b4up y 4) := by show b4 (y : Int) = _; unfold b4 b4up; rw [Int.toNat_natCast]
        have hlen : (bs ++ [kindOf true, n] ++ nums (zs.take q)).length ≤ 200000 := by
          simp only [List.length_append, nums_length, List.length_take, List.length_cons, List.length_nil]; omega
        generalize hpre : bs ++ [kindOf true, n] ++ nums (zs.take q) = pre at *
        have HPRE := hide hpre
        clear hy cz hpre hz1 hz2
        have hq0 : (0 : Int) ≤ (q : Int) := Int.natCast_nonneg _
        have hq1 : (q : Int) < (n : Int) := by omega
        go_wp2
        go_loopw [0, 26] (fun u i wq => ∃ k : Nat, k ≤ 4 ∧ i = .int .i64 k ∧ Hid (wq.ownsRow B 5 1 u (pre ++ b4up y k).length (bcells (pre ++ b4up y k))) ∧ Hid (Below B w wq)) (fun _ i _ => 4 - (intOf i).toNat)
        case atStart => exact ⟨0, by omega, rfl, by show World.ownsRow _ _ _ _ _ _ _; rw [show b4up y 0 = [] from rfl, List.append_nil]; exact HO.out, HB⟩
        case round =>
          clear HO HB dz
          obtain ⟨k, hk, rfl, HO, HB⟩ := hrel
          by_cases hk4 : k < 4
          · obtain ⟨v3, w3, hr3, ho3, hb3, _⟩ := more_bytes HO.out (by have := HB.out.size; omega) [byteAt y k] 1 #[.int .u8 ((byteAt y k : Nat) : Int)] rfl (by omega) rfl (by rw [List.length_append, b4up_length]; omega)
            have HR3 := hide hr3
            have HO3 : Hid (w3.ownsRow B 5 1 v3 (pre ++ b4up y (k + 1)).length (bcells (pre ++ b4up y (k + 1)))) := by
              show World.ownsRow _ _ _ _ _ _ _
              rw [b4up_succ, ← List.append_assoc]; exact ho3
            have HB3 : Hid (Below B w w3) := HB.out.trans hb3
            have HV : Hid ((y : Int) / 2 ^ (8 * (3 - k)) % 256 = ((byteAt y k : Nat) : Int)) := byte_val y k
            have hqq : 8 * (3 - k) < 64 := by omega
            generalize hqe : 8 * (3 - k) = qq at *
            generalize hyy : byteAt y k = yy at *
            clear hr3 ho3 hb3 hyy HO HB
            have hk0 : (k : Int) < 4 := by omega
            go_wp2_with fail
            refine (shiftOf_any k _ hk4).mono ?_
            rw [hqe]
            rintro e w9 ⟨rfl, rfl⟩
            go_wp2_with fail
            refine kept_append_intro _ _ _ (.slice (some ⟨w9.heap.size, 0, none⟩) 1 1) v3 (w' := w3) (by rfl) (by rfl) (by rw [HV.out]; exact HR3.out) ?_
            go_wp2
            exact ⟨⟨k + 1, by omega, by go_num, HO3, HB3⟩, by simp [intOf]; omega⟩
          · have hk4e : k = 4 := by omega
            subst hk4e
            go_wp2
            exact ⟨⟨q + 1, by omega, by go_num, by show World.ownsRow _ _ _ _ _ _ _; rw [HTQ.out, HB4.out, ← List.append_assoc, HPRE.out]; exact HO.out, HB⟩, by simp [intOf]; omega⟩
      · have hqe : q = n := by omega
        subst hqe
        go_wp2
        go_ret
        exact ⟨_, rfl, by have h9 := HO.out; rw [HE.out q (List.take_of_length_le (by rw [HN.out]; omega))] at h9; exact h9, HB.out⟩
  | false =>
    go_wp2_with fail
    refine kept_append_intro _ _ v (.slice (some ⟨w.heap.size + 1, 0, none⟩) 2 2) v1 rfl rfl (by exact HR1.out) ?_
    clear HR1
    go_wp2
    go_loopw [0, 22] (fun u i wq => ∃ q : Nat, q ≤ n ∧ i = .int .i64 q ∧ Hid (wq.ownsRow B 5 1 u (bs ++ [kindOf false, n] ++ nums (zs.take q)).length (bcells (bs ++ [kindOf false, n] ++ nums (zs.take q)))) ∧ Hid (Below B w wq)) (fun _ i _ => n - (intOf i).toNat)
    case atStart => exact ⟨0, Nat.zero_le _, rfl, by show World.ownsRow _ _ _ _ _ _ _; rw [List.take_zero, nums, List.append_nil]; exact HO1.out, HB1⟩
    case round =>
      obtain ⟨q, hq, rfl, HO, HB⟩ := hrel
      clear HO1 HB1 q1 hsz1
      by_cases hlq : q < n
      · have hqp : q < zs.length := by rw [HN.out]; exact hlq
        have cz := HC.out q zs[q] (List.getElem?_eq_getElem hqp)
        have z0 := World.block_lt_of_cell? w0 _ cz
        simp only at z0
        have HTQ : Hid (nums (zs.take (q + 1)) = nums (zs.take q) ++ b4 zs[q]) := by show nums (zs.take (q + 1)) = _; rw [List.take_succ_eq_append_getElem hqp, nums_snoc]
        obtain ⟨hz1, hz2⟩ := HZ.out zs[q] (List.getElem_mem hqp)
        have dz : wr.cell? ⟨b2, o2 + q, none⟩ = some (.int .i64 zs[q]) := by
          rw [(HBW.out.trans HB.out).cell (p := ⟨b2, o2 + q, none⟩) (by show b2 < B; omega)]; exact cz
        obtain ⟨y, hy⟩ := Int.eq_ofNat_of_zero_le (show 0 ≤ zs[q] by omega)
        rw [hy] at dz hz1 hz2 HTQ
        have HB4 : Hid (b4 (y : Int) = b4up y 4) := by show b4 (y : Int) = _; unfold b4 b4up; rw [Int.toNat_natCast]
        have hlen : (bs ++ [kindOf false, n] ++ nums (zs.take q)).length ≤ 200000 := by
          simp only [List.length_append, nums_length, List.length_take, List.length_cons, List.length_nil]; omega
        generalize hpre : bs ++ [kindOf false, n] ++ nums (zs.take q) = pre at *
        have HPRE := hide hpre
        clear hy cz hpre hz1 hz2
        have hq0 : (0 : Int) ≤ (q : Int) := Int.natCast_nonneg _
        have hq1 : (q : Int) < (n : Int) := by omega
        go_wp2
        go_loopw [0, 26] (fun u i wq => ∃ k : Nat, k ≤ 4 ∧ i = .int .i64 k ∧ Hid (wq.ownsRow B 5 1 u (pre ++ b4up y k).length (bcells (pre ++ b4up y k))) ∧ Hid (Below B w wq)) (fun _ i _ => 4 - (intOf i).toNat)
        case atStart => exact ⟨0, by omega, rfl, by show World.ownsRow _ _ _ _ _ _ _; rw [show b4up y 0 = [] from rfl, List.append_nil]; exact HO.out, HB⟩
        case round =>
          clear HO HB dz
          obtain ⟨k, hk, rfl, HO, HB⟩ := hrel
          by_cases hk4 : k < 4
          · obtain ⟨v3, w3, hr3, ho3, hb3, _⟩ := more_bytes HO.out (by have := HB.out.size; omega) [byteAt y k] 1 #[.int .u8 ((byteAt y k : Nat) : Int)] rfl (by omega) rfl (by rw [List.length_append, b4up_length]; omega)
            have HR3 := hide hr3
            have HO3 : Hid (w3.ownsRow B 5 1 v3 (pre ++ b4up y (k + 1)).length (bcells (pre ++ b4up y (k + 1)))) := by
              show World.ownsRow _ _ _ _ _ _ _
              rw [b4up_succ, ← List.append_assoc]; exact ho3
            have HB3 : Hid (Below B w w3) := HB.out.trans hb3
            have HV : Hid ((y : Int) / 2 ^ (8 * (3 - k)) % 256 = ((byteAt y k : Nat) : Int)) := byte_val y k
            have hqq : 8 * (3 - k) < 64 := by omega
            generalize hqe : 8 * (3 - k) = qq at *
            generalize hyy : byteAt y k = yy at *
            clear hr3 ho3 hb3 hyy HO HB
            have hk0 : (k : Int) < 4 := by omega
            go_wp2_with fail
            refine (shiftOf_any k _ hk4).mono ?_
            rw [hqe]
            rintro e w9 ⟨rfl, rfl⟩
            go_wp2_with fail
            refine kept_append_intro _ _ _ (.slice (some ⟨w9.heap.size, 0, none⟩) 1 1) v3 (w' := w3) (by rfl) (by rfl) (by rw [HV.out]; exact HR3.out) ?_
            go_wp2
            exact ⟨⟨k + 1, by omega, by go_num, HO3, HB3⟩, by simp [intOf]; omega⟩
          · have hk4e : k = 4 := by omega
            subst hk4e
            go_wp2
            exact ⟨⟨q + 1, by omega, by go_num, by show World.ownsRow _ _ _ _ _ _ _; rw [HTQ.out, HB4.out, ← List.append_assoc, HPRE.out]; exact HO.out, HB⟩, by simp [intOf]; omega⟩
      · have hqe : q = n := by omega
        subst hqe
        go_wp2
        go_ret
        exact ⟨_, rfl, by have h9 := HO.out; rw [HE.out q (List.take_of_length_le (by rw [HN.out]; omega))] at h9; exact h9, HB.out⟩
end
end Go.Proofs.Ytnfokbpnjhhiiaa
