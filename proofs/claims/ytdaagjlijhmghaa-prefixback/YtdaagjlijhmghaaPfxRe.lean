/- The document's Four and Prefixes. -/
import Derived.Test.YtdaagjlijhmghaaPfxEc
import Derived.Test.YtdaagjlijhmghaaPfxRf
namespace Go.Proofs.Ytdaagjlijhmghaa
open Go.RowKit
set_option maxRecDepth 100000

theorem four_cells (v : Nat) (hv : v < 4294967296) : (bcells ((List.range 4).map (byteAt v))).toArray = #[.int .u8 ((v : Int) / 16777216), .int .u8 ((v : Int) / 65536 % 256), .int .u8 ((v : Int) / 256 % 256), .int .u8 ((v : Int) % 256)] := by
  have e : bcells ((List.range 4).map (byteAt v)) = [.int .u8 (byteAt v 0 : Int), .int .u8 (byteAt v 1 : Int), .int .u8 (byteAt v 2 : Int), .int .u8 (byteAt v 3 : Int)] := rfl
  rw [e]
  unfold byteAt
  simp only [Nat.sub_zero, Nat.reduceSub, Nat.reduceMul, Nat.reducePow, Nat.pow_zero, Nat.div_one]
  have e0 : ((v / 16777216 % 256 : Nat) : Int) = (v : Int) / 16777216 := by omega
  have e1 : ((v / 65536 % 256 : Nat) : Int) = (v : Int) / 65536 % 256 := by omega
  have e2 : ((v / 256 % 256 : Nat) : Int) = (v : Int) / 256 % 256 := by omega
  have e3 : ((v % 256 : Nat) : Int) = (v : Int) % 256 := by omega
  rw [e0, e1, e2, e3]
set_option maxHeartbeats 800000 in
theorem four_eq (v : Nat) (w : World) (hv : v < 4294967296) : Calls Try.prog 32 #[.int .i64 (v : Int)] w fun e w' =>
    e = .returned (.slice (some ⟨w.heap.size, 0, none⟩) 4 4) ∧ w' = w.alloc (.cells (bcells ((List.range 4).map (byteAt v))).toArray 5) := by
  have HV := hide (four_cells v hv)
  go_enter Try.func32, Try.ntmps32
  go_wp2
  go_ret
  rw [HV.out]
  exact ⟨rfl, rfl⟩
/-- The first k bytes of four, appended. -/
theorem run_fours {wq : World} {B : Nat} {v : Value} {bs : List Nat} (ho : wq.ownsRow B 5 1 v bs.length (bcells bs)) (hB : B ≤ wq.heap.size) (A k : Nat) (hk : k ≤ 4) (hl : bs.length ≤ 900000) :
    ∃ v' w', (Builtin.append_ #[34, 34] 34 #[v, .slice (some ⟨wq.heap.size, 0, none⟩) k 4]).run Try.prog (wq.alloc (.cells (bcells ((List.range 4).map (byteAt A))).toArray 5)).drew = .ok v' w' ∧ w'.ownsRow B 5 1 v' (bs ++ (List.range k).map (byteAt A)).length (bcells (bs ++ (List.range k).map (byteAt A))) ∧ Below B wq w' := by
  have hb0 : Below B wq (wq.alloc (.cells (bcells ((List.range 4).map (byteAt A))).toArray 5)).drew := ((Below.refl _ _).alloc hB _).drew
  obtain ⟨v', w', hr, h2, h3, _, _⟩ := app_more elemU8 (w := (wq.alloc (.cells (bcells ((List.range 4).map (byteAt A))).toArray 5)).drew) ((ho.alloc _).drew) (Nat.le_trans hB hb0.size) ⟨wq.heap.size, 0, none⟩ k 4 (bcells ((List.range k).map (byteAt A))) (by rw [bcells_length]; simp) (fun j u hu => by
    have hj : j < k := by
      have := (List.getElem?_eq_some_iff.1 hu).1
      rw [bcells_length] at this
      simpa using this
    rw [Addr.add_mid, Nat.zero_add, World.cell?_drew, World.cell?_alloc_mark]
    have e : (bcells ((List.range k).map (byteAt A)))[j]? = some (.int .u8 (byteAt A j : Int)) := by simp [bcells, hj]
    rw [e] at hu
    rw [← hu]
    simp [bcells, show j < 4 from by omega]) (bcells_one _) (by omega)
  refine ⟨v', w', hr, ?_, hb0.trans h3⟩
  rw [bcells_app, List.length_append, List.length_map, List.length_range]
  exact h2
section
attribute [local go_sem ↓] Go.wp_at_zero Go.wp_at_succ kept_append
set_option maxHeartbeats 3200000 in
theorem rencode_some (b off cap len : Nat) (ps : List (Nat × Int)) (w : World) (hlen : ps.length = len) (hl : len ≤ 10000) (hcell : ∀ i p, ps[i]? = some p → w.cell? ⟨b, off + i * 2, none⟩ = some (.int .u32 (p.1 : Int)) ∧ w.cell? ⟨b, off + i * 2 + 1, none⟩ = some (.int .i64 p.2)) (hsm : ∀ x ∈ ps, x.1 < 4294967296) :
    Calls Try.prog 19 #[.slice (some ⟨b, off, none⟩) len cap] w fun e w' => ∃ v, e = .returned v ∧ w'.ownsRow w.heap.size 5 1 v (encAll ps).length (bcells (encAll ps)) ∧ Below w.heap.size w w' := by
  have HC := hide hcell
  have HS := hide hsm
  clear hcell hsm
  have HLEN := hide hlen
  clear hlen
  go_enter Try.func19, Try.ntmps19
  go_wp2
  go_loopw [3, 4] (fun v i wq => ∃ k : Nat, k ≤ len ∧ i = .int .i64 k ∧ Hid (wq.ownsRow w.heap.size 5 1 v (encAll (ps.take k)).length (bcells (encAll (ps.take k)))) ∧ Hid (Below w.heap.size w wq)) (fun _ i _ => len - (intOf i).toNat)
  case atStart => exact ⟨0, Nat.zero_le _, rfl, own_nil _ _ _ _, Below.refl _ _⟩
  case round =>
    obtain ⟨k, hk, rfl, HO, HB⟩ := hrel
    by_cases hlt : k < len
    · have hkp : k < ps.length := by rw [HLEN.out]; exact hlt
      obtain ⟨c0, c1⟩ := HC.out k ps[k] (List.getElem?_eq_getElem hkp)
      have hA := HS.out ps[k] (List.getElem_mem hkp)
      have HT := hide (encAll_take ps k hkp)
      have HLE := hide (encAll_take_le ps k)
      have d0 : wr.cell? ⟨b, off + k * 2, none⟩ = some (.int .u32 ((ps[k]).1 : Int)) := by rw [HB.out.cell (p := ⟨b, off + k * 2, none⟩) (World.block_lt_of_cell? w _ c0)]; exact c0
      have d1 : wr.cell? ⟨b, off + k * 2 + 1, none⟩ = some (.int .i64 (ps[k]).2) := by rw [HB.out.cell (p := ⟨b, off + k * 2 + 1, none⟩) (World.block_lt_of_cell? w _ c1)]; exact c1
      have HC0 := hide c0
      have HC1 := hide c1
      clear c0 c1
      generalize ps[k].1 = A at *
      generalize ps[k].2 = L at *
      have hk0 : (0 : Int) ≤ (k : Int) := Int.natCast_nonneg _
      have hk1 : (k : Int) < (len : Int) := by omega
      go_wp2_with fail
      refine (right_any A L _).mono ?_
      cases hr : rightB A L with
      | false =>
        have HT2 : Hid (encAll (ps.take (k + 1)) = encAll (ps.take k)) := by show encAll (ps.take (k + 1)) = _; rw [HT.out, hr]; simp
        clear hr
        rintro e w1 ⟨rfl, hb⟩
        have HB1 := hide hb
        clear hb
        go_wp2
        exact ⟨⟨k + 1, by omega, by go_num, show w1.ownsRow _ _ _ _ _ _ by rw [HT2.out]; exact own_later HO.out HB1.out, HB.out.trans (HB1.out.mono HB.out.size)⟩, by simp [intOf]; omega⟩
      | true =>
        obtain ⟨n, hn, hn32, _⟩ := rightB_len hr
        subst hn
        have HT2 : Hid (encAll (ps.take (k + 1)) = encAll (ps.take k) ++ [n] ++ (List.range (szOf n)).map (byteAt A)) := by show encAll (ps.take (k + 1)) = _; rw [HT.out, hr]; simp [encOne]
        clear hr
        rintro e w1 ⟨rfl, hb⟩
        have HB1 : Hid (Below w.heap.size w w1) := HB.out.trans (hb.mono HB.out.size)
        have p0 : w1.cell? ⟨b, off + k * 2, none⟩ = some (.int .u32 (A : Int)) := by rw [HB1.out.cell (p := ⟨b, off + k * 2, none⟩) (World.block_lt_of_cell? w _ HC0.out)]; exact HC0.out
        have p1 : w1.cell? ⟨b, off + k * 2 + 1, none⟩ = some (.int .i64 (n : Int)) := by rw [HB1.out.cell (p := ⟨b, off + k * 2 + 1, none⟩) (World.block_lt_of_cell? w _ HC1.out)]; exact HC1.out
        obtain ⟨v2, w2, hr2, ho2, hb2⟩ := app_new elemU8 (own_later HO.out hb) HB1.out.size 1 (bcells [n]) rfl (bcells_one _) (by have := HLE.out; omega) w1.heap.size rfl
        have HR2 := hide hr2
        have HB2 : Hid (Below w.heap.size w w2) := HB1.out.trans hb2
        have ho2' : w2.ownsRow w.heap.size 5 1 v2 (encAll (ps.take k) ++ [n]).length (bcells (encAll (ps.take k) ++ [n])) := by rw [bcells_app, List.length_append]; exact ho2
        obtain ⟨v3, w3, hr3, ho3, hb3⟩ := run_fours ho2' HB2.out.size A (szOf n) (szOf_le n hn32) (by rw [List.length_append]; have := HLE.out; simp; omega)
        have HR3 := hide hr3
        have HO3 : Hid (w3.ownsRow w.heap.size 5 1 v3 (encAll (ps.take (k + 1))).length (bcells (encAll (ps.take (k + 1))))) := by show w3.ownsRow _ _ _ _ _ _; rw [HT2.out]; exact ho3
        have HB3 : Hid (Below w.heap.size w w3) := HB2.out.trans hb3
        have t0 : w2.cell? ⟨b, off + k * 2, none⟩ = some (.int .u32 (A : Int)) := by rw [HB2.out.cell (p := ⟨b, off + k * 2, none⟩) (World.block_lt_of_cell? w _ HC0.out)]; exact HC0.out
        have t1 : w2.cell? ⟨b, off + k * 2 + 1, none⟩ = some (.int .i64 (n : Int)) := by rw [HB2.out.cell (p := ⟨b, off + k * 2 + 1, none⟩) (World.block_lt_of_cell? w _ HC1.out)]; exact HC1.out
        have hbl := World.block_lt_of_cell? w2 _ t0
        simp only at hbl
        have hse : ((n : Int) + 7) / 8 = ((szOf n : Nat) : Int) := by unfold szOf; omega
        have hs4 := szOf_le n hn32
        have hs4' : ((szOf n : Nat) : Int) ≤ 4 := by omega
        have hbl1 := World.block_lt_of_cell? w1 _ p0
        simp only at hbl1
        clear hb hr2 ho2 hb2 ho2' hr3 ho3 hb3 d0 d1
        have w7 : IntKind.i64.wrap ((n : Int) + 7) = (n : Int) + 7 := by rw [IntKind.wrap_i64]; omega
        have t8 : ((n : Int) + 7).tdiv 8 = ((szOf n : Nat) : Int) := by rw [Int.tdiv_eq_ediv_of_nonneg (by omega)]; unfold szOf; omega
        have w8 : IntKind.i64.wrap ((szOf n : Nat) : Int) = ((szOf n : Nat) : Int) := by rw [IntKind.wrap_i64]; omega
        have s0 : (0 : Int) ≤ ((szOf n : Nat) : Int) := by omega
        generalize szOf n = s at *
        have HWA : Hid (IntKind.i64.wrap (A : Int) = (A : Int)) := by show IntKind.i64.wrap (A : Int) = _; rw [IntKind.wrap_i64]; omega
        go_wp2_with fail
        refine kept_append_intro _ _ _ (.slice (some ⟨w1.heap.size, 0, none⟩) 1 1) v2 rfl rfl HR2.out ?_
        go_wp2_with fail
        go_region_with (first
          | (go_at_call 32; rw [HWA.out]; refine (four_eq A _ hA).mono ?_; rintro e w9 ⟨rfl, rfl⟩)
          | (refine kept_append_intro _ _ v2 (.slice (some ⟨w2.heap.size, 0, none⟩) s 4) v3 (w' := w3) (by rfl) (by rfl) (by exact HR3.out) ?_))
        all_goals go_wp2
        all_goals exact ⟨⟨k + 1, by omega, by go_num, HO3, HB3⟩, by simp [intOf]; omega⟩
    · go_wp2
      go_ret
      have hkl : ps.take k = ps := List.take_of_length_le (by rw [HLEN.out]; omega)
      exact ⟨_, rfl, by have := HO.out; rw [hkl] at this; exact this, HB.out⟩
end
set_option maxHeartbeats 400000 in
theorem rencode_empty (a : Option Addr) (cap : Nat) (w : World) :
    Calls Try.prog 19 #[.slice a 0 cap] w fun e w' => ∃ v, e = .returned v ∧ w'.ownsRow w.heap.size 5 1 v 0 [] ∧ Below w.heap.size w w' := by
  go_enter Try.func19, Try.ntmps19
  go_wp2
  go_loopw [3, 4] (fun v i wq => v = .slice none 0 0 ∧ i = .int .i64 0 ∧ wq = w) (fun _ i _ => 0 - (intOf i).toNat)
  case atStart => exact ⟨rfl, rfl, rfl⟩
  case round =>
    obtain ⟨rfl, rfl, rfl⟩ := hrel
    go_wp2
    go_ret
    exact ⟨_, rfl, own_nil _ _ _ _, Below.refl _ _⟩
theorem rencode_any (a : Option Addr) (cap : Nat) (ps : List (Nat × Int)) (w : World) (hl : ps.length ≤ 10000) (h : PRd w a ps) :
    Calls Try.prog 19 #[.slice a ps.length cap] w fun e w' => ∃ v, e = .returned v ∧ w'.ownsRow w.heap.size 5 1 v (encAll ps).length (bcells (encAll ps)) ∧ Below w.heap.size w w' := by
  by_cases h0 : ps = []
  · subst h0; exact rencode_empty a cap w
  · obtain ⟨b, off, rfl, hc⟩ := h.cells (List.length_pos_iff.2 h0)
    exact rencode_some b off cap _ ps w rfl hl hc h.small
end Go.Proofs.Ytdaagjlijhmghaa
