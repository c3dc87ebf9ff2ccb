/- The program's Encode. -/
import Derived.Test.YtdaagjlijhmghaaPfxEn
namespace Go.Proofs.Ytdaagjlijhmghaa
open Go.RowKit
set_option maxRecDepth 100000

/-- The slice's elements are the prefixes ps. -/
structure PRd (w : World) (a : Option Addr) (ps : List (Nat × Int)) : Prop where
  cells : 0 < ps.length → ∃ b off, a = some ⟨b, off, none⟩ ∧ ∀ i p, ps[i]? = some p → w.cell? ⟨b, off + i * 2, none⟩ = some (.int .u32 (p.1 : Int)) ∧ w.cell? ⟨b, off + i * 2 + 1, none⟩ = some (.int .i64 p.2)
  small : ∀ x ∈ ps, x.1 < 4294967296
theorem PRd.below {w w' : World} {a : Option Addr} {ps : List (Nat × Int)} (h : PRd w a ps) (hb : Below w.heap.size w w') : PRd w' a ps := by
  refine ⟨fun hp => ?_, h.small⟩
  obtain ⟨b, off, rfl, hc⟩ := h.cells hp
  refine ⟨b, off, rfl, fun i p hi => ?_⟩
  obtain ⟨h1, h2⟩ := hc i p hi
  exact ⟨by rw [hb.cell (p := ⟨b, off + i * 2, none⟩) (World.block_lt_of_cell? w _ h1)]; exact h1, by rw [hb.cell (p := ⟨b, off + i * 2 + 1, none⟩) (World.block_lt_of_cell? w _ h2)]; exact h2⟩
theorem encAll_take (ps : List (Nat × Int)) (k : Nat) (hk : k < ps.length) : encAll (ps.take (k + 1)) = encAll (ps.take k) ++ (if rightB (ps[k]).1 (ps[k]).2 then encOne (ps[k]).1 (ps[k]).2.toNat else []) := by
  rw [List.take_succ_eq_append_getElem hk, encAll_snoc]
theorem encAll_take_le (ps : List (Nat × Int)) (k : Nat) : (encAll (ps.take k)).length ≤ 5 * k := by
  have h1 := encAll_length (ps.take k)
  have h2 := List.length_take_le k ps
  omega
set_option maxHeartbeats 1600000 in
theorem encode_some (b off cap len : Nat) (ps : List (Nat × Int)) (w : World) (hlen : ps.length = len) (hl : len ≤ 10000) (hcell : ∀ i p, ps[i]? = some p → w.cell? ⟨b, off + i * 2, none⟩ = some (.int .u32 (p.1 : Int)) ∧ w.cell? ⟨b, off + i * 2 + 1, none⟩ = some (.int .i64 p.2)) (hsm : ∀ x ∈ ps, x.1 < 4294967296) :
    Calls Try.prog 16 #[.slice (some ⟨b, off, none⟩) len cap] w fun e w' => ∃ v, e = .returned v ∧ w'.ownsRow w.heap.size 5 1 v (encAll ps).length (bcells (encAll ps)) ∧ Below w.heap.size w w' := by
  have HC := hide hcell
  have HS := hide hsm
  clear hcell hsm
  have HLEN := hide hlen
  clear hlen
  go_enter Try.func16, Try.ntmps16
  go_wp2
  go_loopw [3, 8] (fun v i wq => ∃ k : Nat, k ≤ len ∧ i = .int .i64 k ∧ Hid (wq.ownsRow w.heap.size 5 1 v (encAll (ps.take k)).length (bcells (encAll (ps.take k)))) ∧ Hid (Below w.heap.size w wq)) (fun _ i _ => len - (intOf i).toNat)
  case atStart => exact ⟨0, Nat.zero_le _, rfl, own_nil _ _ _ _, Below.refl _ _⟩
  case round =>
    obtain ⟨k, hk, rfl, HO, HB⟩ := hrel
    by_cases hlt : k < len
    · have hkp : k < ps.length := by rw [HLEN.out]; exact hlt
      obtain ⟨c0, c1⟩ := HC.out k ps[k] (List.getElem?_eq_getElem hkp)
      have hA := HS.out ps[k] (List.getElem_mem hkp)
      have HT := hide (encAll_take ps k hkp)
      have HLE := hide (encAll_take_le ps k)
      have d0 : wr.cell? ⟨b, off + k * 2, none⟩ = some (.int .u32 ((ps[k]).1 : Int)) := by rw [HB.out.cell (p := ⟨b, off + k * 2, none⟩) (World.block_lt_of_cell? w _ c0)]; exact c0
      have d1 : wr.cell? ⟨b, off + k * 2 + 1, none⟩ = some (.int .i64 (ps[k]).2) := by rw [HB.out.cell (p := ⟨b, off + k * 2 + 1, none⟩) (World.block_lt_of_cell? w _ c1)]; exact c1
      clear c0 c1
      generalize ps[k].1 = A at *
      generalize ps[k].2 = L at *
      have hbl := World.block_lt_of_cell? wr _ d0
      simp only at hbl
      have hk0 : (0 : Int) ≤ (k : Int) := Int.natCast_nonneg _
      have hk1 : (k : Int) < (len : Int) := by omega
      go_wp2_with fail
      refine (meets_one A L _ hA _ 1 (by simp [go_sem])).mono ?_
      cases hr : rightB A L with
      | false =>
        have HT2 : Hid (encAll (ps.take (k + 1)) = encAll (ps.take k)) := by show encAll (ps.take (k + 1)) = _; rw [HT.out, hr]; simp
        clear hr
        rintro e w1 ⟨rfl, hb⟩
        have HB1 := hide (((Below.refl _ wr).alloc (Nat.le_refl _) _).alloc (by simp) _ |>.trans (hb.mono (by simp <;> omega)))
        clear hb
        go_wp2
        exact ⟨⟨k + 1, by omega, by go_num, show w1.ownsRow _ _ _ _ _ _ by rw [HT2.out]; exact own_later HO.out HB1.out, HB.out.trans (HB1.out.mono HB.out.size)⟩, by simp [intOf]; omega⟩
      | true =>
        obtain ⟨n, hn, hn32, _⟩ := rightB_len hr
        subst hn
        have HT2 : Hid (encAll (ps.take (k + 1)) = encAll (ps.take k) ++ encOne A n) := by show encAll (ps.take (k + 1)) = _; rw [HT.out, hr]; simp
        clear hr
        rintro e w1 ⟨rfl, hb⟩
        have p0 : w1.cell? ⟨wr.heap.size, 0, none⟩ = some (.int .u32 (A : Int)) := by rw [hb.cell (p := ⟨wr.heap.size, 0, none⟩) (by simp <;> omega)]; simp [go_sem]
        have p1 : w1.cell? ⟨wr.heap.size, 1, none⟩ = some (.int .i64 (n : Int)) := by rw [hb.cell (p := ⟨wr.heap.size, 1, none⟩) (by simp <;> omega)]; simp [go_sem]
        have HB1 := hide (((Below.refl _ wr).alloc (Nat.le_refl _) _).alloc (by simp) _ |>.trans (hb.mono (by simp <;> omega)))
        clear hb
        go_wp2_with fail
        refine (apx_any w.heap.size A n u3 (encAll (ps.take k)) _ hn32 (own_later HO.out HB1.out) (Nat.le_trans HB.out.size HB1.out.size) (by have := HLE.out; omega)).mono ?_
        rintro e w2 ⟨v2, rfl, ho2, hb2⟩
        have HO2 : Hid (w2.ownsRow w.heap.size 5 1 v2 (encAll (ps.take (k + 1))).length (bcells (encAll (ps.take (k + 1))))) := by show w2.ownsRow _ _ _ _ _ _; rw [HT2.out]; exact ho2
        have HB2 : Hid (Below w.heap.size w w2) := (HB.out.trans (HB1.out.mono HB.out.size)).trans hb2
        clear ho2 hb2
        go_wp2
        exact ⟨⟨k + 1, by omega, by go_num, HO2, HB2⟩, by simp [intOf]; omega⟩
    · go_wp2
      go_ret
      have hkl : ps.take k = ps := List.take_of_length_le (by rw [HLEN.out]; omega)
      exact ⟨_, rfl, by have := HO.out; rw [hkl] at this; exact this, HB.out⟩
set_option maxHeartbeats 400000 in
theorem encode_empty (a : Option Addr) (cap : Nat) (w : World) :
    Calls Try.prog 16 #[.slice a 0 cap] w fun e w' => ∃ v, e = .returned v ∧ w'.ownsRow w.heap.size 5 1 v 0 [] ∧ Below w.heap.size w w' := by
  go_enter Try.func16, Try.ntmps16
  go_wp2
  go_loopw [3, 8] (fun v i wq => v = .slice none 0 0 ∧ i = .int .i64 0 ∧ wq = w) (fun _ i _ => 0 - (intOf i).toNat)
  case atStart => exact ⟨rfl, rfl, rfl⟩
  case round =>
    obtain ⟨rfl, rfl, rfl⟩ := hrel
    go_wp2
    go_ret
    exact ⟨_, rfl, own_nil _ _ _ _, Below.refl _ _⟩
theorem encode_any (a : Option Addr) (cap : Nat) (ps : List (Nat × Int)) (w : World) (hl : ps.length ≤ 10000) (h : PRd w a ps) :
    Calls Try.prog 16 #[.slice a ps.length cap] w fun e w' => ∃ v, e = .returned v ∧ w'.ownsRow w.heap.size 5 1 v (encAll ps).length (bcells (encAll ps)) ∧ Below w.heap.size w w' := by
  by_cases h0 : ps = []
  · subst h0; exact encode_empty a cap w
  · obtain ⟨b, off, rfl, hc⟩ := h.cells (List.length_pos_iff.2 h0)
    exact encode_some b off cap _ ps w rfl hl hc h.small
end Go.Proofs.Ytdaagjlijhmghaa
