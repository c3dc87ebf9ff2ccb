/- The program's bytesOf. -/
import Derived.Test.YtempaadgheondaaDoorAtQ
import Derived.Test.YtempaadgheondaaDoorHRaw
import Derived.Test.YtempaadgheondaaDoorHOn2
import Derived.Deep.RegionWith
namespace Go.Proofs.YtempaadgheondaaDoor
open Go.RowKit
set_option maxRecDepth 100000

theorem encC_get (cs : List Nat) (j q : Nat) (hq : q < 4) (hj : j < cs.length) : (encC cs)[4 * j + q]? = some (byteAt cs[j] q) := by
  induction cs generalizing j with
  | nil => simp at hj
  | cons x l ih =>
    have e : encC (x :: l) = b4 (x : Int) ++ encC l := rfl
    rw [e]
    cases j with
    | zero =>
      rw [List.getElem?_append_left (by rw [b4_length]; omega)]
      unfold b4
      rw [Int.toNat_natCast]
      simp [List.getElem?_range hq]
    | succ j =>
      rw [List.getElem?_append_right (by rw [b4_length]; omega), b4_length, show 4 * (j + 1) + q - 4 = 4 * j + q from by omega]
      simpa using ih j (by simpa using hj)
/-- The first k bytes, the others 0. -/
def firstC (cs : List Nat) (k : Nat) : List Nat := (encC cs).take k ++ List.replicate (4 * cs.length - k) 0
theorem firstC_length (cs : List Nat) (k : Nat) (hk : k ≤ 4 * cs.length) : (firstC cs k).length = 4 * cs.length := by
  unfold firstC
  rw [List.length_append, List.length_take, List.length_replicate, encC_length]
  omega
theorem firstC_zero (cs : List Nat) : firstC cs 0 = List.replicate (4 * cs.length) 0 := by simp [firstC]
theorem firstC_end (cs : List Nat) : firstC cs (4 * cs.length) = encC cs := by
  unfold firstC
  rw [← encC_length, List.take_length, Nat.sub_self, List.replicate_zero, List.append_nil]
theorem firstC_succ (cs : List Nat) (j q : Nat) (hq : q < 4) (hj : j < cs.length) : firstC cs (4 * j + q + 1) = (firstC cs (4 * j + q)).set (4 * j + q) (byteAt cs[j] q) := by
  have hg := encC_get cs j q hq hj
  have hl := encC_length cs
  unfold firstC
  have ht : ((encC cs).take (4 * j + q)).length = 4 * j + q := by rw [List.length_take, hl]; omega
  rw [List.set_append_right _ _ (by omega), ht, Nat.sub_self, show 4 * cs.length - (4 * j + q) = (4 * cs.length - (4 * j + q + 1)) + 1 from by omega, List.replicate_succ, List.set_cons_zero, List.take_add_one, hg]
  simp
theorem bcells_set (l : List Nat) (j z : Nat) : bcells (l.set j z) = (bcells l).set j (.int .u8 (z : Int)) := by simp [bcells, List.map_set]
theorem run_make_u8 (n : Nat) (hn : n ≤ 100000) (w : World) : (Instr.makeSlice 30 (.int .i64 (n : Int)) (.int .i64 (n : Int))).run Tryd.prog w =
    .ok (.slice (some ⟨w.heap.size, 0, none⟩) n n) (w.alloc (.cells (bcells (List.replicate n 0)).toArray 5)) := by
  obtain ⟨i0, hi0, hz0, hz1, hz2⟩ := info_parts Tryd.infoU8
  have := run_make (P := Tryd.prog) w 30 5 i0 _ Tryd.underlying30 hi0 hz0 .i64 .i64 (n : Int) (n : Int) (by omega) (Int.le_refl _) (by rw [hz2]; omega) (by omega)
  simp only [Int.toNat_natCast, hz1, Value.cells, Nat.mul_one] at this
  rw [this]
  congr 3
  apply Array.ext_getElem?
  intro k
  by_cases hk : k < n
  · simp [madeCells, bcells, hk, Nat.mod_one]
  · simp [madeCells, bcells, hk]
theorem own_u8s (w : World) (n : Nat) (l : List Nat) (hl : l.length = n) (hn : n ≤ 100000) : (w.alloc (.cells (bcells l).toArray 5)).ownsRow w.heap.size 5 1 (.slice (some ⟨w.heap.size, 0, none⟩) n n) n (bcells l) :=
  ⟨by rw [bcells_length]; omega, .inr ⟨w.heap.size, n, _, rfl, Nat.le_refl _, by unfold World.alloc; exact Array.getElem?_push_size, Nat.le_refl _, by unfold maxLen; omega, by simp [bcells_length, hl], by rw [Nat.mul_one, ← hl, ← bcells_length l, List.take_length]⟩⟩
theorem byteAt_shr (x q : Nat) : IntKind.u8.wrap ((x : Int) / 2 ^ (8 * (3 - q))) = ((byteAt x q : Nat) : Int) := by
  unfold byteAt
  have e : ((x : Int) / 2 ^ (8 * (3 - q))) = ((x / 2 ^ (8 * (3 - q)) : Nat) : Int) := by simp
  rw [e, IntKind.wrap_u8]
  omega
set_option maxHeartbeats 3200000 in
theorem bytesOf_some (b o c : Nat) (cs : List Nat) (w : World) (n : Nat) (hn : cs.length = n) (hl : n ≤ 5000) (hn0 : 0 < n) (hf : ∀ x ∈ cs, x < 4294967296) (hcell : ∀ (j z : Nat), cs[j]? = some z → w.cell? ⟨b, o + j, none⟩ = some (.int .u32 (z : Int))) :
    Calls Tryd.prog 50 #[.slice (some ⟨b, o, none⟩) n c] w fun e w' => ∃ a9 c9, e = .returned (.slice a9 (4 * n) c9) ∧ w'.ownsRow w.heap.size 5 1 (.slice a9 (4 * n) c9) (4 * n) (bcells (encC cs)) ∧ Below w.heap.size w w' := by
  have HC := hide hcell
  have HF := hide hf
  clear hcell hf
  have hmk := fun w => run_make_u8 (4 * n) (by omega) w
  have HO0 : Hid ((w.alloc (.cells (bcells (List.replicate (4 * n) 0)).toArray 5)).ownsRow w.heap.size 5 1 (.slice (some ⟨w.heap.size, 0, none⟩) (4 * n) (4 * n)) (4 * n) (bcells (firstC cs 0))) := by
    show World.ownsRow _ _ _ _ _ _ _
    rw [firstC_zero, hn]; exact own_u8s w (4 * n) _ (by simp) (by omega)
  have HEN : Hid (firstC cs (4 * n) = encC cs) := by show firstC _ _ = _; rw [← hn]; exact firstC_end cs
  have HNN := hide hn
  generalize hm : 4 * n = m at *
  have hmul : (4 : Int) * (n : Int) = (m : Int) := by omega
  have wm : IntKind.i64.wrap (m : Int) = (m : Int) := by rw [IntKind.wrap_i64]; omega
  have HM := hide hm
  have hmb : m ≤ 20000 := by omega
  clear hm hn
  go_enter Tryd.func50, Tryd.ntmps50
  go_wp2
  go_loopw [11] (fun i wq => ∃ k : Nat, k ≤ m ∧ i = .int .i64 k ∧ Hid (wq.ownsRow w.heap.size 5 1 (.slice (some ⟨w.heap.size, 0, none⟩) m m) m (bcells (firstC cs k))) ∧ Hid (Below w.heap.size w wq)) (fun i _ => m - (intOf i).toNat)
  case atStart => exact ⟨0, Nat.zero_le _, rfl, HO0, (Below.refl _ _).alloc (Nat.le_refl _) _⟩
  case round =>
    obtain ⟨k, hk, rfl, HO, HB⟩ := hrel
    clear HO0
    by_cases hlt : k < m
    · obtain ⟨j, q, hq4, hjq⟩ : ∃ j q, q < 4 ∧ k = 4 * j + q := ⟨k / 4, k % 4, by omega, by omega⟩
      have hjn : j < n := by have := HM.out; omega
      have hjl : j < cs.length := by rw [HNN.out]; exact hjn
      have hj4 : Int.tdiv (k : Int) 4 = (j : Int) := by rw [Int.tdiv_eq_ediv_of_nonneg (by omega)]; omega
      have hq5 : Int.tmod (k : Int) 4 = (q : Int) := by rw [Int.tmod_eq_emod_of_nonneg (by omega)]; omega
      have ck : wr.cell? ⟨b, o + j, none⟩ = some (.int .u32 ((cs[j] : Nat) : Int)) := by
        rw [HB.out.cell (p := ⟨b, o + j, none⟩) (World.block_lt_of_cell? w _ (HC.out j _ (List.getElem?_eq_getElem hjl)))]
        exact HC.out j _ (List.getElem?_eq_getElem hjl)
      have hzj : wr.frozen? ⟨w.heap.size, k, none⟩ = false := HO.out.frozenAt k
      obtain ⟨u9, hck⟩ : ∃ u, wr.cell? ⟨w.heap.size, k, none⟩ = some u := by
        rw [HO.out.cellAt k (by rw [Nat.mul_one]; exact hlt)]
        refine ⟨_, List.getElem?_eq_getElem ?_⟩
        rw [bcells_length, firstC_length _ _ (by rw [HNN.out, HM.out]; exact hk), HNN.out, HM.out]
        exact hlt
      have hst := HO.out.stored k (.int .u8 ((byteAt cs[j] q : Nat) : Int))
      have HO2 : Hid ((wr.setCell ⟨w.heap.size, k, none⟩ (.int .u8 ((byteAt cs[j] q : Nat) : Int))).ownsRow w.heap.size 5 1 (.slice (some ⟨w.heap.size, 0, none⟩) m m) m (bcells (firstC cs (k + 1)))) := by
        show World.ownsRow _ _ _ _ _ _ _
        have h9 := firstC_succ cs j q hq4 hjl
        rw [← hjq] at h9
        rw [h9, bcells_set]; exact hst.1
      have HB2 : Hid (Below w.heap.size w (wr.setCell ⟨w.heap.size, k, none⟩ (.int .u8 ((byteAt cs[j] q : Nat) : Int)))) := HB.out.setCell (Nat.le_refl _) _
      have HSH := hide (byteAt_shr cs[j] q)
      have hxl := HF.out cs[j] (List.getElem_mem hjl)
      have hb256 : byteAt cs[j] q < 256 := by unfold byteAt; omega
      clear hst hjq
      generalize byteAt cs[j] q = y at *
      generalize cs[j] = x at *
      have hk0 : (0 : Int) ≤ (k : Int) := Int.natCast_nonneg _
      have hk1 : (k : Int) < (m : Int) := by omega
      have hjn2 : (j : Int) < (n : Int) := by omega
      have hj0 : (0 : Int) ≤ (j : Int) := Int.natCast_nonneg _
      have wj : IntKind.i64.wrap (j : Int) = (j : Int) := by rw [IntKind.wrap_i64]; omega
      have hqq : 8 * (3 - q) < 32 := by omega
      generalize hqe : 8 * (3 - q) = qq at *
      have hz1 : w.heap.size < wr.heap.size := by have := World.block_lt_of_cell? wr _ hck; simpa using this
      go_wp2_with fail
      go_region_with (go_at_call 68; refine (shiftA_any q _ hq4).mono ?_; rw [hqe]; rintro e w9 ⟨rfl, rfl⟩)
      all_goals rw [HSH.out]
      all_goals go_wp2
      all_goals exact ⟨⟨k + 1, by omega, by go_num, HO2.out.drew, HB2.out.drew⟩, by simp [intOf]; omega⟩
    · have hkm : k = m := by omega
      subst hkm
      rw [HEN.out] at HO
      go_wp2
      go_ret
      exact ⟨_, _, rfl, HO.out, HB.out⟩
end Go.Proofs.YtempaadgheondaaDoor
