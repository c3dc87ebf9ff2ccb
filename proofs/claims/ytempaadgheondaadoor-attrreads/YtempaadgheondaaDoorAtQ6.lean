/- What the walks of layer 7 have in common. -/
import Derived.Test.YtempaadgheondaaDoorAtQz
import Derived.Test.YtempaadgheondaaDoorAtSm
namespace Go.Proofs.YtempaadgheondaaDoor
open Go.RowKit
set_option maxRecDepth 100000

theorem eqA_refl (a : At) : eqA a a = true := by unfold eqA eqHead eqP; simp
theorem rise_len : ∀ (l : List (Nat × Nat × List Nat)) (m : Nat), (l.Pairwise fun p q => p.2.1 < q.2.1) → (∀ p ∈ l, m ≤ p.2.1 ∧ p.2.1 < 256) → l.length ≤ 256 - m
  | [], _, _, _ => Nat.zero_le _
  | p :: l, m, h, hm => by
    obtain ⟨h1, h2⟩ := List.pairwise_cons.1 h
    have h3 := rise_len l (p.2.1 + 1) h2 (fun q hq => ⟨h1 q hq, (hm q (List.mem_cons_of_mem _ hq)).2⟩)
    obtain ⟨h4, h5⟩ := hm p List.mem_cons_self
    rw [List.length_cons]
    omega
theorem two_len (l : List (Int × Int × List Nat)) : (encLo l).length + (encHi l).length ≤ sumR l + 4 * l.length := by
  induction l with
  | nil => simp [encLo, encHi, sumR]
  | cons r l ih =>
    have h1 := oneB_length r.1.toNat r.2.1.toNat r.2.2
    simp only [encLo, encHi, sumR, List.length_append, List.length_cons]
    by_cases h2 : r.2.1 < 8
    · rw [if_pos h2, if_neg (by omega)]
      simp only [List.length_nil]
      omega
    · rw [if_neg h2]
      split
      · simp only [List.length_nil]
        omega
      · simp only [List.length_nil]
        omega
theorem raws_lt {w : World} {pa ca ra : Option Addr} {a : At} (h : AtRd w pa ca ra a) : ∀ r ∈ a.raws, ∀ x ∈ r.2.2, x < 256 := fun r hr => by
  obtain ⟨i, hi, rfl⟩ := List.mem_iff_getElem.1 hr
  obtain ⟨b, off, _, hat⟩ := h.raws (by omega)
  obtain ⟨_, _, _, _, _, _, h9⟩ := hat i _ (List.getElem?_eq_getElem hi)
  exact h9.2
theorem encA_lt {a : At} (h : Fine a) (hb : ∀ r ∈ a.raws, ∀ x ∈ r.2.2, x < 256) : ∀ x ∈ encA a, x < 256 := by
  rw [← flat_parts a h.good]
  have hok := parts_ok h hb
  generalize partsA a = P at hok
  induction P with
  | nil => intro x hx; simp [flatA] at hx
  | cons p P ih =>
    intro x hx
    rw [flatA, List.mem_append] at hx
    rcases hx with hx | hx
    · obtain ⟨h1, _, h3, h4, h5⟩ := hok p List.mem_cons_self
      exact oneB_lt p.1 p.2.1 p.2.2 h1 h3 (by omega) h5 x hx
    · exact ih (fun q hq => hok q (List.mem_cons_of_mem _ hq)) x hx
theorem encA_length {a : At} (h : Fine a) (hb : ∀ r ∈ a.raws, ∀ x ∈ r.2.2, x < 256) (hl : sizeA a < 3000) : (encA a).length ≤ 9000 := by
  have hok := parts_ok h hb
  have hn := rise_len (partsA a) 0 (parts_rise h) (fun p hp => ⟨Nat.zero_le _, (hok p hp).2.2.1⟩)
  have hp := (perm_parts h).length_eq
  rw [List.length_map, List.length_append] at hp
  obtain ⟨_, h2, _, _, _, h6, _⟩ := h.head
  have hps := goodP_sum h2
  have hpl := goodP_len h2
  have q0 := two_len a.raws
  unfold sizeA at hl
  unfold encA
  rw [if_pos h.good]
  have q3 : (enc123 a).length ≤ 1000 := by
    unfold enc123
    have r1 := oneB_length 64 1 [a.origin.toNat]
    have r2 := oneB_length 64 2 (encSegs a.path)
    have r3 := oneB_length 64 3 (b4 (a.next : Int))
    rw [encSegs_length] at r2
    rw [b4_length] at r3
    simp only [List.length_cons, List.length_nil] at r1
    simp only [List.length_append]
    omega
  have q4 : (enc45 a).length ≤ 100 := by
    unfold enc45
    have r1 := oneB_length 128 4 (b4 a.med)
    have r2 := oneB_length 64 5 (b4 a.pref)
    rw [b4_length] at r1 r2
    rw [List.length_append]
    split <;> split <;> simp <;> omega
  have q5 : (enc8 a).length ≤ 1000 := by
    unfold enc8
    have r1 := oneB_length 192 8 (encC a.comms)
    rw [encC_length] at r1
    split <;> simp <;> omega
  simp only [List.length_append]
  omega
/-- What Decode answers, as it is read. -/
theorem dec_rd {w : World} {B : Nat} {p1 p5 p6 : Option Addr} {k1 k5 k6 : Nat} {a : At} (hn : a.next < 4294967296) (hl : sizeA a ≤ 100000) (hb : ∀ r ∈ a.raws, ∀ x ∈ r.2.2, x < 256) (h1 : OwnPath w B (.slice p1 a.path.length k1) a.path) (h5 : w.ownsRow B 23 1 (.slice p5 a.comms.length k5) a.comms.length (ucells a.comms)) (h6 : OwnRaws w B (.slice p6 a.raws.length k6) a.raws) : AtRd w p1 p5 p6 a := by
  unfold sizeA at hl
  obtain ⟨x1, y1, e1, r1⟩ := h1.rd (by omega) (fun s hs => by have := sumP_mem a.path s hs; omega)
  obtain ⟨x5, y5, e5, r5⟩ := own_crd h5
  obtain ⟨x6, y6, e6, r6⟩ := h6.rd (fun r hr => ⟨by have := sumR_mem a.raws r hr; omega, hb r hr⟩)
  simp only [Value.slice.injEq, true_and] at e1 e5 e6
  obtain ⟨rfl, rfl⟩ := e1
  obtain ⟨rfl, rfl⟩ := e5
  obtain ⟨rfl, rfl⟩ := e6
  exact ⟨r1, r5, r6, hn⟩
end Go.Proofs.YtempaadgheondaaDoor
