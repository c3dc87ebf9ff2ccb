/- The walk of DecideBest. -/
import Derived.Test.YtolpaimmmhoiiaaDdO
namespace Go.Proofs.Ytolpaimmmhoiiaa
open Go.RowKit
set_option maxRecDepth 100000

theorem bestV_two (o : Option Nat) : ∃ (n : Int) (ok : Bool), bestV o = .tuple #[.int .i64 n, .bool ok] := by
  cases o with
  | none => exact ⟨0, false, rfl⟩
  | some j => exact ⟨(j : Int), true, rfl⟩
theorem fit_of {all : List Rt} (h : ∀ (j : Nat) (r : Rt), all[j]? = some r → FineR r) : ∀ r ∈ all, fitR r := fun r hr => by
  obtain ⟨j, hj⟩ := List.getElem?_of_mem hr
  obtain ⟨h1, h2, _⟩ := h j r hj
  exact ⟨by omega, h2⟩
set_option maxHeartbeats 3200000 in
theorem decideBest_walk (num : Int) (ai : Option Addr) (ci : Nat) (infos : List Inf) (al : Option Addr) (cl : Nat) (all : List Rt) (w : World) (hid : ∀ x ∈ infos, x.id < 4294967296) (I : InfsRd w ai infos) (hm : all.length ≤ 1152921504606846976) (hb : ∀ x ∈ all, BigR x) (R : RtsRd w al all) :
    Calls Try.prog 3 #[.int .i64 num, .slice ai infos.length ci, .slice al all.length cl] w fun e w' => e = .returned (.bool true) ∧ Below w.heap.size w w' := by
  have KS := hide (smallD_any al cl all w hm hb R)
  have KA : Hid (∀ W, Calls Try.prog 9 #[] W fun e w' => e = .returned (.bool true) ∧ Below W.heap.size W w') := answersD_any
  obtain ⟨n, ok, hv⟩ := bestV_two (bestB num infos all)
  have KB : Hid (∀ W, Below w.heap.size w W → infos.length ≤ 20 → (all.length < 3000 ∧ ∀ (j : Nat) (r : Rt), all[j]? = some r → FineR r) → Calls Try.prog 10 #[.int .i64 num, .slice ai infos.length ci, .slice al all.length cl] W fun e w' => e = .returned (.tuple #[.int .i64 n, .bool ok]) ∧ Below W.heap.size W w') := fun W h9 hl hf => hv ▸ pbest_any num ai ci infos al cl all W (by omega) ⟨fitQ_of (by omega) hid hf.2, R.below h9, I.below h9⟩
  have KR : Hid (∀ W a c, Below w.heap.size w W → InfsRd W a infos → infos.length ≤ 20 → (all.length < 3000 ∧ ∀ (j : Nat) (r : Rt), all[j]? = some r → FineR r) → Calls Try.prog 11 #[.int .i64 num, .slice a infos.length c, .slice al all.length cl] W fun e w' => e = .returned (.tuple #[.int .i64 n, .bool ok]) ∧ Below W.heap.size W w') := fun W a c h9 hi hl hf => hv ▸ best_any num a c infos al cl all W (by omega) (by omega) hid (fit_of hf.2) (R.below h9) hi
  have KI : Hid (∀ W, Below w.heap.size w W → infos.length ≤ 20 → Calls Try.prog 12 #[.slice ai infos.length ci] W fun e w' => (∃ a c, e = .returned (.slice a infos.length c) ∧ InfsRd w' a infos) ∧ Below W.heap.size W w') := fun W h9 hl => by
    refine (infos_any ai ci infos W (by omega) (I.below h9)).mono ?_
    rintro e w' ⟨⟨v, he, ho⟩, hb⟩
    obtain ⟨a, c, rfl, hr⟩ := ho.rd
    exact ⟨⟨a, c, he, hr⟩, hb⟩
  clear hv hid I hm hb R
  generalize (all.length < 3000 ∧ ∀ (j : Nat) (r : Rt), all[j]? = some r → FineR r) = P at *
  generalize all.length = m at *
  obtain ⟨ni, hni⟩ : ∃ ni, ni = infos.length := ⟨_, rfl⟩
  rw [← hni] at KB KR KI ⊢
  clear hni
  go_enter Try.func3, Try.ntmps3
  go_wp2_with fail
  refine KS.out.mono ?_
  rintro e w1 ⟨⟨z, rfl, hz⟩, b1⟩
  have HZ := hide hz
  have HB1 := hide b1
  clear hz b1 KS
  cases z with
  | false =>
    go_wp2_with fail
    refine (KA.out _).mono ?_
    rintro e w2 ⟨rfl, b2⟩
    have HB2 : Hid (Below w.heap.size w w2) := HB1.out.trans (b2.mono HB1.out.size)
    clear b2
    go_wp2
    go_ret
    exact ⟨rfl, HB2.out⟩
  | true =>
    have HP := hide (HZ.out rfl)
    by_cases hl : ni ≤ 20
    · have f1 : decide (20 < ni) = false := decide_eq_false (by omega)
      have f2 : decide ((20 : Int) < (ni : Int)) = false := decide_eq_false (by omega)
      go_wp2_with fail
      refine (KB.out _ HB1.out hl HP.out).mono ?_
      rintro e w2 ⟨rfl, b2⟩
      have HB2 : Hid (Below w.heap.size w w2) := HB1.out.trans (b2.mono HB1.out.size)
      clear b2
      go_wp2_with fail
      refine (KI.out _ HB2.out hl).mono ?_
      rintro e w3 ⟨⟨a3, c3, rfl, hi3⟩, b3⟩
      have HB3 : Hid (Below w.heap.size w w3) := HB2.out.trans (b3.mono HB2.out.size)
      have KR3 := hide (KR.out w3 a3 c3 HB3.out hi3 hl HP.out)
      clear b3 hi3
      go_wp2_with fail
      refine KR3.out.mono ?_
      rintro e w4 ⟨rfl, b4⟩
      have HB4 : Hid (Below w.heap.size w w4) := HB3.out.trans (b4.mono HB3.out.size)
      clear b4 KR3
      go_wp2_with fail
      refine (KA.out _).mono ?_
      rintro e w5 ⟨rfl, b5⟩
      have HB5 : Hid (Below w.heap.size w w5) := HB4.out.trans (b5.mono HB4.out.size)
      clear b5
      go_wp2
      go_ret
      exact ⟨by simp, HB5.out⟩
    · have f1 : (20 : Int) < (ni : Int) := by omega
      go_wp2_with fail
      refine (KA.out _).mono ?_
      rintro e w2 ⟨rfl, b2⟩
      have HB2 : Hid (Below w.heap.size w w2) := HB1.out.trans (b2.mono HB1.out.size)
      clear b2
      go_wp2
      go_ret
      exact ⟨rfl, HB2.out⟩
end Go.Proofs.Ytolpaimmmhoiiaa
