/- AttrMissing's walk, whole. -/
import Derived.Test.YtempaadgheondaaDoorHMis
namespace Go.Proofs.YtempaadgheondaaDoor
open Go.RowKit
set_option maxRecDepth 100000

theorem attrMissing_walk (pa0 : Option Addr) (pc0 : Nat) (ca0 : Option Addr) (cc0 : Nat) (ra0 : Option Addr) (rc0 : Nat) (a0 : At) (z1 : Int) (W : World) (hS : Said W) (g0 : BigA a0) (h0 : AtRd W pa0 ca0 ra0 a0) (wf1 : (Lit.int IntKind.u8 z1).wf = true) :
    Calls Tryd.prog 7 #[atV pa0 pc0 ca0 cc0 ra0 rc0 a0, .int .u8 z1] W fun e W' => e = .returned (.bool true) ∧ Below W.heap.size W W' := by
  have b1 := bounds_u8 wf1
  obtain ⟨la, rfl⟩ := Int.eq_ofNat_of_zero_le (show 0 ≤ z1 by omega)
  have KA := fun X (hb : Below W.heap.size W X) => answers_any X (hS.below hb)
  have KM := fun X (hb : Below W.heap.size W X) => smalla_any pa0 pc0 ca0 cc0 ra0 rc0 a0 X g0.path g0.segs g0.comms g0.raws g0.datas (h0.below hb)
  cases hs : smallA a0 with
  | false =>
    rw [hs] at KM
    exact amiss_no a0.origin pa0 _ pc0 a0.next a0.med a0.pref ca0 _ cc0 ra0 _ rc0 false false _ W (.inl rfl) KA KM (fun h => by cases h)
  | true =>
    rw [hs] at KM
    have hl := of_decide_eq_true hs
    have KR := fun X (hb : Below W.heap.size W X) => gooda_any pa0 pc0 ca0 cc0 ra0 rc0 a0 X (by omega) (h0.below hb)
    cases hg : goodA a0 with
    | false =>
      rw [hg] at KR
      exact amiss_no a0.origin pa0 _ pc0 a0.next a0.med a0.pref ca0 _ cc0 ra0 _ rc0 true false _ W (.inr rfl) KA KM (fun _ => KR)
    | true =>
      rw [hg] at KR
      have hF : Fine a0 := ⟨hg, h0.next, g0.nums⟩
      have hfl := flat_parts a0 hg
      have hlt := encA_lt hF (raws_lt h0)
      have hln := encA_length hF (raws_lt h0) hl
      have hok := parts_ok hF (raws_lt h0)
      have hln5 : 5 ≤ (encA a0).length := by
        rw [enc_first hF]
        have hpos : 0 < (restA a0).length := by
          unfold restA
          have := oneB_pos 64 2 (encSegs a0.path)
          simp only [List.length_append]
          omega
        rw [List.length_append]
        simp only [List.length_cons, List.length_nil]
        omega
      have KAT := fun X (hb : Below W.heap.size W X) => rattrs_any pa0 pc0 ca0 cc0 ra0 rc0 a0 X (by omega) (h0.below hb) g0.nums
      rw [← hfl] at KAT hln hlt hln5
      have HC : ∀ k (h : k < (partsA a0).length), (partsA a0)[k].2.1 < 256 ∧ ∃ b0 b2 b3, CutAt (flatA (partsA a0)) (flatA ((partsA a0).take k)).length (partsA a0)[k].2.1 (oneB (partsA a0)[k].1 (partsA a0)[k].2.1 (partsA a0)[k].2.2).length (oneB (partsA a0)[k].1 (partsA a0)[k].2.1 (partsA a0)[k].2.2) b0 b2 b3 := fun k hk => by
        obtain ⟨q1, q2, q3, q4, _⟩ := hok _ (List.getElem_mem hk)
        exact ⟨q3, cut_at _ k hk q1 q2 q4⟩
      have hkl := Nat.le_trans (keepL_le la (partsA a0)) hln
      have hrk := read_keep hF la
      generalize partsA a0 = P at *
      rcases hrk with ⟨hz, b, hr⟩ | ⟨hz, hz2, hr⟩
      · refine amiss_go a0.origin pa0 _ pc0 a0.next a0.med a0.pref ca0 _ cc0 ra0 _ rc0 la (flatA P).length P.length P 0 0 [] W rfl hln5 hln hlt rfl HC (.inl ⟨hz, rfl⟩) KA KM KR KAT fun X a9 n9 c9 hb hn hc hrd => ?_
        refine (dec_attr a9 c9 n9 _ b X (hS.below hb) hn.symm (by omega) hc hrd hr).mono ?_
        rintro e w' ⟨p1, j1, p5, j5, p6, j6, rfl, hb9⟩
        exact ⟨_, _, _, _, _, _, _, _, _, _, _, _, _, _, _, rfl, brd_none _ none, hb9⟩
      · refine amiss_go a0.origin pa0 _ pc0 a0.next a0.med a0.pref ca0 _ cc0 ra0 _ rc0 la (flatA P).length P.length P 3 3 [leastL la P 0] W rfl hln5 hln hlt rfl HC (.inr ⟨hz, hz2, rfl, rfl, rfl⟩) KA KM KR KAT fun X a9 n9 c9 hb hn hc hrd => ?_
        refine (dec_note a9 c9 n9 3 _ [leastL la P 0] X (hS.below hb) hn.symm (by omega) hc hrd hr (fun x hx => by simp at hx; omega) (by simp)).mono ?_
        rintro e w' ⟨a8, c8, rfl, hbr, hb9⟩
        exact ⟨_, _, _, _, _, _, _, _, _, _, _, _, _, _, _, rfl, hbr, hb9⟩
end Go.Proofs.YtempaadgheondaaDoor
