/- AttrFlags' walk, whole. -/
import Derived.Test.YtempaadgheondaaDoorAtFg
namespace Go.Proofs.YtempaadgheondaaDoor
open Go.RowKit
set_option maxRecDepth 100000

/-- Decode's two answers, in a world in which what it has made stands. -/
theorem dec_stands (a : Option Addr) (c n : Nat) (bs : List Nat) (w : World) (hS : Said w) (hn : bs.length = n) (hl : n ≤ 10000) (hc : n ≤ c) (h : BRd w a bs) (k s : Int) (d : List Nat)
    (hr : (∃ b, readA bs = .inr b ∧ k = 0 ∧ s = 0 ∧ d = []) ∨ (∃ s', readA bs = .inl (3, s', d) ∧ k = 3 ∧ s = (s' : Int))) (hd : ∀ x ∈ d, x < 256) (hdl : d.length ≤ 100000) :
    Calls Tryd.prog 16 #[.slice a n c] w fun e w' => ∃ cA ab cb, e = .returned (.tuple #[.agg cA, .agg #[.int .i64 k, .int .i64 s, .slice ab d.length cb]]) ∧ cA.size = 7 ∧ cA.all (·.oneCell') = true ∧ (∀ X : World, w'.heap.size ≤ X.heap.size → (∀ j, w.heap.size ≤ j → j < w'.heap.size → X.heap[j]? = w'.heap[j]?) → BRd X ab d) ∧ Below w.heap.size w w' := by
  subst hn
  refine (decode_any a c bs w hS hl hc h).mono fun e w' ⟨h1, h2⟩ => ?_
  rcases hr with ⟨b, hr, rfl, rfl, rfl⟩ | ⟨s', hr, rfl, rfl⟩
  · rw [hr] at h1
    obtain ⟨p1, k1, p5, k5, p6, k6, he, _⟩ := h1
    exact ⟨_, _, _, he, rfl, by simp [Value.oneCell'], fun X _ _ => brd_none X none, h2⟩
  · rw [hr] at h1
    obtain ⟨a9, c9, he, ho⟩ := h1
    refine ⟨_, a9, c9, he, rfl, by simp [Value.oneCell'], fun X _ hX => ?_, h2⟩
    have ho2 : X.ownsRow w.heap.size 5 1 (.slice a9 d.length c9) d.length (bcells d) := by
      refine ⟨ho.1, ?_⟩
      rcases ho.2 with hh | ⟨g, cap, cur, e1, hg, hc, rest⟩
      · exact .inl hh
      · refine .inr ⟨g, cap, cur, e1, hg, ?_, rest⟩
        rw [hX g hg (Array.getElem?_eq_some_iff.1 hc).1]
        exact hc
    obtain ⟨a8, c8, e8, _, hb⟩ := own_brd (bs := d) ho2 (by omega) hd
    simp only [Value.slice.injEq, true_and] at e8
    obtain ⟨rfl, rfl⟩ := e8
    exact hb
theorem attrFlags_walk (pa0 : Option Addr) (pc0 : Nat) (ca0 : Option Addr) (cc0 : Nat) (ra0 : Option Addr) (rc0 : Nat) (a0 : At) (z1 z2 : Int) (W : World) (hS : Said W) (g0 : BigA a0) (h0 : AtRd W pa0 ca0 ra0 a0) (wf1 : (Lit.int IntKind.u8 z1).wf = true) (wf2 : (Lit.int IntKind.u8 z2).wf = true) :
    Calls Tryd.prog 8 #[atV pa0 pc0 ca0 cc0 ra0 rc0 a0, .int .u8 z1, .int .u8 z2] W fun e W' => e = .returned (.bool true) ∧ Below W.heap.size W W' := by
  have b1 := bounds_u8 wf1
  have b2 := bounds_u8 wf2
  obtain ⟨fl, rfl⟩ := Int.eq_ofNat_of_zero_le (show 0 ≤ z1 by omega)
  obtain ⟨mo, rfl⟩ := Int.eq_ofNat_of_zero_le (show 0 ≤ z2 by omega)
  have KA := fun X (hb : Below W.heap.size W X) => answers_any X (hS.below hb)
  have KM := fun X (hb : Below W.heap.size W X) => smalla_any pa0 pc0 ca0 cc0 ra0 rc0 a0 X g0.path g0.segs g0.comms g0.raws g0.datas (h0.below hb)
  cases hs : smallA a0 with
  | false =>
    rw [hs] at KM
    exact aflags_no a0.origin pa0 _ pc0 a0.next a0.med a0.pref ca0 _ cc0 ra0 _ rc0 false false _ _ W (.inl rfl) KA KM (fun h => by cases h)
  | true =>
    rw [hs] at KM
    have hl := of_decide_eq_true hs
    have KR := fun X (hb : Below W.heap.size W X) => gooda_any pa0 pc0 ca0 cc0 ra0 rc0 a0 X (by omega) (h0.below hb)
    cases hg : goodA a0 with
    | false =>
      rw [hg] at KR
      exact aflags_no a0.origin pa0 _ pc0 a0.next a0.med a0.pref ca0 _ cc0 ra0 _ rc0 true false _ _ W (.inr rfl) KA KM (fun _ => KR)
    | true =>
      rw [hg] at KR
      have hF : Fine a0 := ⟨hg, h0.next, g0.nums⟩
      have hen := enc_first hF
      have hen2 : encA a0 = 64 :: 1 :: 1 :: a0.origin.toNat :: restA a0 := hen
      have hlt := encA_lt hF (raws_lt h0)
      have hln := encA_length hF (raws_lt h0) hl
      have ho := hF.head.1
      have hR : ∀ x ∈ restA a0, x < 256 := fun x hx => hlt x (by rw [hen2]; simp [hx])
      have hpos : 0 < (restA a0).length := by
        unfold restA
        have := oneB_pos 64 2 (encSegs a0.path)
        simp only [List.length_append]
        omega
      obtain ⟨_, c256, c16, c64, c32⟩ := clr_bits fl (by omega)
      have hlen : (64 :: 1 :: 1 :: a0.origin.toNat :: restA a0).length = (encA a0).length := by rw [hen2]
      have hlen4 : (encA a0).length = 4 + (restA a0).length := by rw [hen2]; simp; omega
      have KAT := fun X (hb : Below W.heap.size W X) => rattrs_any pa0 pc0 ca0 cc0 ra0 rc0 a0 X (by omega) (h0.below hb) g0.nums
      obtain ⟨el, hel⟩ : ∃ el, (encA a0).length = el := ⟨_, rfl⟩
      rw [hel] at KAT hlen hlen4 hln
      rw [hen2] at KAT
      -- the first reading
      obtain ⟨fits, hfits⟩ : ∃ fits, fits = (decide (fl / 64 = 1) && decide (fl / 32 % 2 = 0)) := ⟨_, rfl⟩
      obtain ⟨k1, s1, d1, hk1, hr1, hd1, hdl1⟩ : ∃ (k1 s1 : Int) (d1 : List Nat), (fits = true ∧ k1 = 0 ∨ fits = false ∧ k1 = 3 ∧ s1 = 4 ∧ d1 = [clr fl, 1, 1, a0.origin.toNat]) ∧ ((∃ b, readA (clr fl :: 1 :: 1 :: a0.origin.toNat :: restA a0) = .inr b ∧ k1 = 0 ∧ s1 = 0 ∧ d1 = []) ∨ (∃ s', readA (clr fl :: 1 :: 1 :: a0.origin.toNat :: restA a0) = .inl (3, s', d1) ∧ k1 = 3 ∧ s1 = (s' : Int))) ∧ (∀ x ∈ d1, x < 256) ∧ d1.length ≤ 100000 := by
        by_cases hff : clr fl / 64 = 1 ∧ clr fl / 32 % 2 = 0
        · refine ⟨0, 0, [], .inl ⟨?_, rfl⟩, .inl ⟨a0, read_fit hF (clr fl) c16 hff, rfl, rfl, rfl⟩, by simp, by simp⟩
          rw [hfits, ← c64, ← c32, hff.1, hff.2]
          rfl
        · refine ⟨3, 4, [clr fl, 1, 1, a0.origin.toNat], .inr ⟨?_, rfl, rfl, rfl⟩, .inr ⟨4, read_unfit hF (clr fl) c16 hff, rfl, rfl⟩, ?_, by simp⟩
          · rw [hfits, ← c64, ← c32]
            by_cases h1 : clr fl / 64 = 1
            · by_cases h2 : clr fl / 32 % 2 = 0
              · exact absurd ⟨h1, h2⟩ hff
              · rw [decide_eq_false h2, Bool.and_false]
            · rw [decide_eq_false h1, Bool.false_and]
          · intro x hx
            simp only [List.mem_cons, List.not_mem_nil, or_false] at hx
            omega
      -- the second one
      obtain ⟨k2, s2, d2, hk2, hr2, hd2, hdl2⟩ : ∃ (k2 s2 : Int) (d2 : List Nat), (decide (mo % 9 ≠ 0) = true ∧ k2 = 3 ∧ s2 = 5 ∧ d2 = [64, 1, 1 + mo % 9, 0] ++ List.replicate (mo % 9) 0 ∨ decide (mo % 9 ≠ 0) = false ∧ k2 = 0) ∧ ((∃ b, readA ([64, 1, 1 + mo % 9, 0] ++ List.replicate (mo % 9) 0 ++ restA a0) = .inr b ∧ k2 = 0 ∧ s2 = 0 ∧ d2 = []) ∨ (∃ s', readA ([64, 1, 1 + mo % 9, 0] ++ List.replicate (mo % 9) 0 ++ restA a0) = .inl (3, s', d2) ∧ k2 = 3 ∧ s2 = (s' : Int))) ∧ (∀ x ∈ d2, x < 256) ∧ d2.length ≤ 100000 := by
        by_cases hm : mo % 9 = 0
        · refine ⟨0, 0, [], .inr ⟨decide_eq_false (by omega), rfl⟩, .inl ⟨zeroO a0, ?_, rfl, rfl, rfl⟩, by simp, by simp⟩
          rw [hm]
          have h9 := read_back (fine_zero hF)
          rw [enc_first (fine_zero hF), rest_zero] at h9
          exact h9
        · have e : [64, 1, 1 + mo % 9, 0] ++ List.replicate (mo % 9) 0 = [64, 1, (0 :: List.replicate (mo % 9) 0).length] ++ (0 :: List.replicate (mo % 9) 0) := by simp; omega
          refine ⟨3, 5, [64, 1, 1 + mo % 9, 0] ++ List.replicate (mo % 9) 0, .inl ⟨decide_eq_true hm, rfl, rfl, rfl⟩, .inr ⟨5, ?_, rfl, rfl⟩, ?_, by simp; omega⟩
          · rw [e]
            exact read_length _ _ (by simp; omega)
          · intro x hx
            simp only [List.mem_append, List.mem_cons, List.not_mem_nil, or_false, List.mem_replicate] at hx
            omega
      refine aflags_go a0.origin pa0 _ pc0 a0.next a0.med a0.pref ca0 _ cc0 ra0 _ rc0 fl mo a0.origin.toNat el (restA a0) fits (decide (mo % 9 ≠ 0)) k1 s1 k2 s2 d1 d2 W (by omega) (by omega) (by omega) hlen (by omega) hln hR hfits rfl hk1 hk2 KA KM KR KAT (fun X a9 n9 c9 hb hn hc hrd => ?_) (fun X a9 n9 c9 hb hn hc hrd => ?_)
      · rcases hr1 with ⟨b, hr, rfl, rfl, rfl⟩ | ⟨s', hr, rfl, rfl⟩
        · refine (dec_attr a9 c9 n9 _ b X (hS.below hb) (by rw [hn, ← hlen]; rfl) (by omega) hc hrd hr).mono ?_
          rintro e w' ⟨p1, j1, p5, j5, p6, j6, rfl, hb9⟩
          exact ⟨_, _, _, _, _, _, _, _, _, _, _, _, _, _, _, rfl, brd_none _ none, hb9⟩
        · refine (dec_note a9 c9 n9 s' _ d1 X (hS.below hb) (by rw [hn, ← hlen]; rfl) (by omega) hc hrd hr hd1 hdl1).mono ?_
          rintro e w' ⟨a8, c8, rfl, hbr, hb9⟩
          exact ⟨_, _, _, _, _, _, _, _, _, _, _, _, _, _, _, rfl, hbr, hb9⟩
      · exact dec_stands a9 c9 n9 _ X (hS.below hb) (by rw [hn]; simp; omega) (by omega) hc hrd k2 s2 d2 hr2 hd2 hdl2
end Go.Proofs.YtempaadgheondaaDoor
