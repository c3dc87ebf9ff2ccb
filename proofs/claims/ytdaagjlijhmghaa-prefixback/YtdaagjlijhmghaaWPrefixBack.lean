/- PrefixBack's walk. -/
import Derived.Test.YtdaagjlijhmghaaPfxAn
import Derived.Test.YtdaagjlijhmghaaPfxSm
import Derived.Test.YtdaagjlijhmghaaPfxRe
namespace Go.Proofs.Ytdaagjlijhmghaa
open Go.RowKit
set_option maxRecDepth 100000

theorem rights_take (ps : List (Nat × Int)) (k : Nat) (hk : k < ps.length) : rights (ps.take (k + 1)) = rights (ps.take k) ++ (if rightB (ps[k]).1 (ps[k]).2 then [((ps[k]).1, (ps[k]).2.toNat)] else []) := by
  rw [List.take_succ_eq_append_getElem hk, rights_snoc]
theorem rights_length (l : List (Nat × Int)) : (rights l).length ≤ l.length := by
  induction l with
  | nil => simp [rights]
  | cons p l ih =>
    simp only [rights, List.length_append, List.length_cons]
    split <;> simp <;> omega
/-- Bytes that are a row of the call's own, as a row that is read. -/
theorem own_rw {w : World} {B : Nat} {v : Value} {bs : List Nat} (h : w.ownsRow B 5 1 v bs.length (bcells bs)) (hl : bs.length ≤ 100000) : ∃ a c, v = .slice a bs.length c ∧ bs.length ≤ c ∧ Rw w a bs.length (fun i => bs.getD i 0) := by
  have hh := h
  rcases h.2 with ⟨rfl, h0⟩ | ⟨g, cap, cur, rfl, _, _, hc, _⟩
  · exact ⟨none, 0, by rw [h0], by omega, by rw [h0]; exact Rw.nil _ _ _⟩
  · refine ⟨_, _, rfl, hc, by unfold maxLen; omega, fun _ => ⟨g, 0, rfl, fun i hi => ?_⟩⟩
    rw [Nat.zero_add, hh.cellAt i (by omega)]
    simp [bcells, List.getD_eq_getElem?_getD, hi]
theorem getD_lt {bs : List Nat} (h : ∀ x ∈ bs, x < 256) (j : Nat) (hj : j < bs.length) : bs.getD j 0 < 256 := by
  rw [List.getD_eq_getElem?_getD, List.getElem?_eq_getElem hj]
  exact h _ (List.getElem_mem hj)
theorem dec_all (ps : List (Nat × Int)) (hs : ∀ x ∈ ps, x.1 < 4294967296) : decRun (fun i => (encAll ps).getD i 0) (encAll ps).length 0 [] = some (rights ps) := by
  have := dec_enc ps hs [] []
  simpa using this
set_option maxHeartbeats 3200000 in
theorem pback_some (a : Option Addr) (cap len : Nat) (ps : List (Nat × Int)) (w : World) (hlen : ps.length = len) (hl : len ≤ 200) (h : PRd w a ps) :
    Calls Try.prog 5 #[.slice a len cap] w fun e w' => e = .returned (.bool true) ∧ Below w.heap.size w w' := by
  have H := hide h
  have HLEN := hide hlen
  have HSM := hide h.small
  have d2 : decide ((200 : Int) < (len : Int)) = false := decide_eq_false (by omega)
  clear h hlen
  go_enter Try.func5, Try.ntmps5
  go_wp2
  go_loopw [3, 4] (fun v i wq => ∃ k : Nat, k ≤ len ∧ i = .int .i64 k ∧ Hid (wq.ownsRow w.heap.size 24 2 v (rights (ps.take k)).length (pcells (rights (ps.take k)))) ∧ Hid (Below w.heap.size w wq)) (fun _ i _ => len - (intOf i).toNat)
  case atStart => exact ⟨0, Nat.zero_le _, rfl, own_nil _ _ _ _, Below.refl _ _⟩
  case round =>
    obtain ⟨k, hk, rfl, HO, HB⟩ := hrel
    by_cases hlt : k < len
    · have hkp : k < ps.length := by rw [HLEN.out]; exact hlt
      obtain ⟨b, off, rfl, hc⟩ := H.out.cells (by omega)
      obtain ⟨c0, c1⟩ := hc k ps[k] (List.getElem?_eq_getElem hkp)
      have HT := hide (rights_take ps k hkp)
      have HLE : Hid ((rights (ps.take k)).length ≤ 200) := by
        have h1 := rights_length (ps.take k)
        have h2 := List.length_take_le k ps
        show (rights (ps.take k)).length ≤ 200
        omega
      have d0 : wr.cell? ⟨b, off + k * 2, none⟩ = some (.int .u32 ((ps[k]).1 : Int)) := by rw [HB.out.cell (p := ⟨b, off + k * 2, none⟩) (World.block_lt_of_cell? w _ c0)]; exact c0
      have d1 : wr.cell? ⟨b, off + k * 2 + 1, none⟩ = some (.int .i64 (ps[k]).2) := by rw [HB.out.cell (p := ⟨b, off + k * 2 + 1, none⟩) (World.block_lt_of_cell? w _ c1)]; exact c1
      have HC0 := hide c0
      have HC1 := hide c1
      clear c0 c1 hc
      generalize ps[k].1 = A at *
      generalize ps[k].2 = L at *
      have hk0 : (0 : Int) ≤ (k : Int) := Int.natCast_nonneg _
      have hk1 : (k : Int) < (len : Int) := by omega
      go_wp2_with fail
      refine (right_any A L _).mono ?_
      cases hr : rightB A L with
      | false =>
        have HT2 : Hid (rights (ps.take (k + 1)) = rights (ps.take k)) := by show rights (ps.take (k + 1)) = _; rw [HT.out, hr]; simp
        clear hr
        rintro e w1 ⟨rfl, hb⟩
        have HB1 := hide hb
        clear hb
        go_wp2
        exact ⟨⟨k + 1, by omega, by go_num, show w1.ownsRow _ _ _ _ _ _ by rw [HT2.out]; exact own_later HO.out HB1.out, HB.out.trans (HB1.out.mono HB.out.size)⟩, by simp [intOf]; omega⟩
      | true =>
        obtain ⟨n, hn, hn32, _⟩ := rightB_len hr
        subst hn
        have HT2 : Hid (rights (ps.take (k + 1)) = rights (ps.take k) ++ [(A, n)]) := by show rights (ps.take (k + 1)) = _; rw [HT.out, hr]; simp
        clear hr
        rintro e w1 ⟨rfl, hb⟩
        have HB1 : Hid (Below w.heap.size w w1) := HB.out.trans (hb.mono HB.out.size)
        have p0 : w1.cell? ⟨b, off + k * 2, none⟩ = some (.int .u32 (A : Int)) := by rw [HB1.out.cell (p := ⟨b, off + k * 2, none⟩) (World.block_lt_of_cell? w _ HC0.out)]; exact HC0.out
        have p1 : w1.cell? ⟨b, off + k * 2 + 1, none⟩ = some (.int .i64 (n : Int)) := by rw [HB1.out.cell (p := ⟨b, off + k * 2 + 1, none⟩) (World.block_lt_of_cell? w _ HC1.out)]; exact HC1.out
        obtain ⟨v3, w3, hrun, hown3, hb3⟩ := app_new elemPfx (own_later HO.out hb) HB1.out.size 1 [.int .u32 (A : Int), .int .i64 (n : Int)] rfl (by simp [Value.oneCell']) (by have := HLE.out; omega) w1.heap.size rfl
        have HR3 := hide hrun
        have HO3 : Hid (w3.ownsRow w.heap.size 24 2 v3 (rights (ps.take (k + 1))).length (pcells (rights (ps.take (k + 1))))) := by
          show w3.ownsRow _ _ _ _ _ _
          rw [HT2.out, pcells_snoc, List.length_append]
          exact hown3
        have HB3 : Hid (Below w.heap.size w w3) := HB1.out.trans hb3
        clear hrun hown3 hb3 hb d0 d1
        go_wp2_with ((with_reducible refine wpl_append _ _ 33 _ (.slice (some ⟨w1.heap.size, 0, none⟩) 1 1) _ ?_ ?_ HR3.out ?_); (· rfl); (· rfl))
        exact ⟨⟨k + 1, by omega, by go_num, HO3, HB3⟩, by simp [intOf]; omega⟩
    · have hkl : ps.take k = ps := List.take_of_length_le (by rw [HLEN.out]; omega)
      rw [hkl] at HO
      clear hkl
      have HL5 : Hid ((encAll ps).length ≤ 1000) := by
        have := encAll_length ps
        have := HLEN.out
        show (encAll ps).length ≤ 1000
        omega
      have HLR : Hid ((rights ps).length ≤ 200) := by
        have := rights_length ps
        have := HLEN.out
        show (rights ps).length ≤ 200
        omega
      go_wp2_with fail
      have henc := encode_any a cap ps wr (by rw [HLEN.out]; omega) (H.out.below HB.out)
      rw [HLEN.out] at henc
      refine henc.mono ?_
      clear henc
      rintro e w1 ⟨v1, rfl, ho1, hb1⟩
      obtain ⟨a1, c1, rfl, hc1, hrw1⟩ := own_rw ho1 (by have := HL5.out; omega)
      have HO1 := hide ho1
      have HRW1 := hide hrw1
      have HC1 := hide hc1
      have HQ1 := hide (own_later HO.out hb1)
      have HB1 : Hid (Below w.heap.size w w1) := HB.out.trans (hb1.mono HB.out.size)
      clear ho1 hb1 hrw1 hc1 HO HB
      generalize henl : (encAll ps).length = el at *
      have HEL := hide henl
      clear henl
      go_wp2_with fail
      refine (decode_any a1 el c1 (fun i => (encAll ps).getD i 0) w1 (by have := HL5.out; omega) HC1.out (fun j hj => getD_lt (encAll_lt ps) j (by rw [HEL.out]; exact hj)) HRW1.out).mono ?_
      have hdec := dec_all ps HSM.out
      rw [HEL.out] at hdec
      rw [hdec]
      clear hdec
      rintro e w2 ⟨⟨v2, rfl, ho2⟩, hb2⟩
      have HO2 := hide ho2
      have HP1 := hide (own_later HO1.out hb2)
      have HQ2 := hide (own_later HQ1.out hb2)
      have HB2 : Hid (Below w.heap.size w w2) := HB1.out.trans (hb2.mono HB1.out.size)
      clear ho2 hb2 HO1 HQ1 HB1 HRW1 HC1
      go_wp2_with fail
      refine (answers_any w2).mono ?_
      rintro e w3 ⟨rfl, hb3⟩
      have HO3 := hide (own_later HO2.out hb3)
      have HP3 := hide (own_later HP1.out hb3)
      have HQ3 := hide (own_later HQ2.out hb3)
      have HB3 : Hid (Below w.heap.size w w3) := HB2.out.trans (hb3.mono HB2.out.size)
      clear hb3 HO2 HP1 HQ2 HB2
      go_wp2_with fail
      have henc := rencode_any a cap ps w3 (by rw [HLEN.out]; omega) (H.out.below HB3.out)
      rw [HLEN.out] at henc
      refine henc.mono ?_
      clear henc
      rintro e w4 ⟨v4, rfl, ho4, hb4⟩
      have HV4 := hide ho4
      have HO4 := hide (own_later HO3.out hb4)
      have HP4 := hide (own_later HP3.out hb4)
      have HQ4 := hide (own_later HQ3.out hb4)
      have HB4 : Hid (Below w.heap.size w w4) := HB3.out.trans (hb4.mono HB3.out.size)
      clear ho4 hb4 HO3 HP3 HQ3 HB3
      go_wp2_with fail
      refine (sameb_any (bs := encAll ps) (by rw [HEL.out]; exact HP4.out) HV4.out (by rw [HEL.out]; have := HL5.out; omega)).mono ?_
      rintro e w5 ⟨rfl, m5, rfl⟩
      have HO5 := hide (own_later HO4.out (below_drewN (Below.refl _ _) m5))
      have HQ5 := hide (own_later HQ4.out (below_drewN (Below.refl _ _) m5))
      have HB5 := hide (below_drewN HB4.out m5)
      generalize w4.drewN m5 = w5 at *
      clear HO4 HP4 HQ4 HB4 HV4
      go_wp2_with fail
      refine (samep_any HO5.out HQ5.out (by have := HLR.out; omega)).mono ?_
      rintro e w6 ⟨rfl, m6, rfl⟩
      go_wp2
      go_ret
      exact ⟨rfl, below_drewN HB5.out m6⟩
theorem prefixBack_walk (a : Option Addr) (cap : Nat) (ps : List (Nat × Int)) (w : World) (h : PRd w a ps) :
    Calls Try.prog 5 #[.slice a ps.length cap] w fun e w' => e = .returned (.bool true) ∧ Below w.heap.size w w' := by
  by_cases hlen : 200 < ps.length
  · generalize ps.length = len at *
    clear h
    go_enter Try.func5, Try.ntmps5
    go_wp2_with fail
    refine (answers_any _).mono ?_
    rintro e w1 ⟨rfl, hb⟩
    have HB := hide hb
    clear hb
    go_wp2
    go_ret
    exact ⟨rfl, HB.out⟩
  · exact pback_some a cap _ ps w rfl (by omega) h
end Go.Proofs.Ytdaagjlijhmghaa
