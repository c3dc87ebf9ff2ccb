/- The document's Read. -/
import Derived.Test.YtbecchoidglaeaaRFlush
namespace Go.Proofs.Ytbecchoidglaeaa
open Go.RowKit
set_option maxRecDepth 100000

/-- What Read has found when k of the loose ones were looked at: a page whose bytes are those of 'lay'. -/
def ReadAt (w : World) (P : Nat → Prop) (s : St) (i k : Nat) (v : Value) : Prop := PageAt w P v (lay (fun _ => 64) s.lo s.lasts k i)
theorem readAt_hit {w : World} {P : Nat → Prop} {s : St} {i k : Nat} {u : Value} (x : Nat × (Nat → Nat)) (hx : s.lo[k]? = some x) (hi : x.1 = i) (h : PageAt w P u x.2) : ReadAt w P s i (k + 1) u := by
  refine h.congr (fun j hj => ?_)
  rw [lay_succ _ _ _ k x hx]
  unfold putPage
  rw [if_pos ⟨hi.symm, hj⟩]
theorem readAt_miss {w : World} {P : Nat → Prop} {s : St} {i k : Nat} {v : Value} (x : Nat × (Nat → Nat)) (hx : s.lo[k]? = some x) (hi : ¬ x.1 = i) (h : ReadAt w P s i k v) : ReadAt w P s i (k + 1) v := by
  refine PageAt.congr h (fun j hj => ?_)
  rw [lay_succ _ _ _ k x hx]
  unfold putPage
  rw [if_neg (fun e => hi e.1.symm)]

set_option maxRecDepth 100000 in
set_option maxHeartbeats 1600000 in
theorem rread_in {w : World} {V : Nat} {sv lv : Value} {pgs : List Value} {lps : List (Nat × Value)} {P : Nat → Prop} {s : St} (h : RefIn w V sv lv pgs lps P s) (i : Nat) (hi : i < s.n) :
    Calls Try.prog 38 #[.pointer (some ⟨V, 0, none⟩), .int .i64 (i : Int)] w fun e w' =>
      ∃ v, e = .returned v ∧ PageAt w P v (lay (fun _ => 64) s.lo s.lasts s.lo.length i) ∧ w' = w := by
  have hnb : s.lo.length ≤ 1000000 := h.many
  obtain ⟨la, lc, hlv, hla⟩ := h.lform
  obtain ⟨sa, sc, hsv, hsa⟩ := h.sform
  obtain ⟨sg, rfl⟩ := hsa (by omega)
  subst hlv
  subst hsv
  have c0 := h.c0
  have c1 := h.c1
  obtain ⟨u, su, hpu⟩ := h.page i hi
  obtain ⟨ub, uo, uc, rfl, huc, hub, huf⟩ := hpu
  have HP0 : Hid (ReadAt w P s i 0 (.slice (some ⟨ub, uo, none⟩) 64 uc)) := ⟨ub, uo, uc, rfl, huc, hub, huf⟩
  have HA := hide hla
  have H := hide h
  have hi0 : (0 : Int) ≤ (i : Int) := Int.natCast_nonneg _
  have hi1 : (i : Int) < (s.n : Int) := by omega
  clear h hla hsa hub huf huc
  go_enter Try.func38, Try.ntmps38
  go_wp2
  go_loopw [5, 6] (fun v kk wq => ∃ k : Nat, k ≤ s.lo.length ∧ kk = .int .i64 k ∧ ReadAt w P s i k v ∧ wq = w) (fun _ kk _ => s.lo.length - (intOf kk).toNat)
  case atStart => exact ⟨0, Nat.zero_le _, rfl, HP0.out, rfl⟩
  case round =>
    clear HP0
    obtain ⟨k, hk, rfl, hrd, rfl⟩ := hrel
    have HRD := hide hrd
    clear hrd
    by_cases hlt : k < s.lo.length
    · obtain ⟨g, rfl⟩ := HA.out (by omega)
      obtain ⟨x, hx⟩ : ∃ x, s.lo[k]? = some x := ⟨_, List.getElem?_eq_getElem hlt⟩
      obtain ⟨v, l0, l1, hpg⟩ := H.out.loose k x hx
      have HX := hide hx
      have HV := hide hpg
      have hk0 : (0 : Int) ≤ (k : Int) := Int.natCast_nonneg _
      have hk1 : (k : Int) < (s.lo.length : Int) := by omega
      clear hx hpg
      by_cases hxi : x.1 = i
      · have e0 : ((x.1 : Int) == (i : Int)) = true := by rw [beq_iff_eq]; omega
        have HXI := hide hxi
        clear hxi
        go_wp2
        exact ⟨⟨k + 1, by omega, by go_num, readAt_hit x HX.out HXI.out HV.out, trivial⟩, by simp [intOf]; omega⟩
      · have e0 : ((x.1 : Int) == (i : Int)) = false := by rw [beq_eq_false_iff_ne]; omega
        have HXI := hide hxi
        clear hxi
        go_wp2
        exact ⟨⟨k + 1, by omega, by go_num, readAt_miss x HX.out HXI.out HRD.out, trivial⟩, by simp [intOf]; omega⟩
    · have hkn : k = s.lo.length := by omega
      have HKN := hide hkn
      clear hkn
      go_wp2
      go_ret
      have hh := HRD.out
      rw [HKN.out] at hh
      exact ⟨_, rfl, hh, rfl⟩
end Go.Proofs.Ytbecchoidglaeaa
