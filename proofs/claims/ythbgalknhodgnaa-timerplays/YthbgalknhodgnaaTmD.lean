/- The sample. -/
import Derived.Test.YthbgalknhodgnaaTmC
namespace Go.Proofs.Ythbgalknhodgnaa
open Go.RowKit
set_option maxRecDepth 100000

theorem delN_nil (n : ByteArray) : delN n [] = [] := rfl
theorem DueIs.early {x : Nm} {now : Int} {n : ByteArray} {m : Int} {z : Bool} {l' : List Nm} (h : DueIs [x] now n m z l') (hx : now < x.2) : z = false ∧ n = ⟨#[]⟩ ∧ m = 0 ∧ l' = [x] := by
  rcases h with ⟨_, h1, h2, _⟩ | ⟨h1, h2, h3, _, h4⟩
  · have := h1.1
    simp only [List.mem_singleton] at this
    subst this
    simp only at hx
    omega
  · exact ⟨h1, h2, h3, h4⟩
theorem DueIs.late {x : Nm} {now : Int} {n : ByteArray} {m : Int} {z : Bool} {l' : List Nm} (h : DueIs [x] now n m z l') (hx : x.2 ≤ now) : z = true ∧ n = x.1 ∧ m = x.2 := by
  rcases h with ⟨h0, h1, h2, _⟩ | ⟨_, _, _, h1, _⟩
  · have := h1.1
    simp only [List.mem_singleton] at this
    subst this
    exact ⟨h0, rfl, rfl⟩
  · have := h1 x List.mem_cons_self
    omega
set_option maxHeartbeats 1600000 in
theorem answers_any (w : World) : Calls Try.prog 6 #[] w fun e w' => e = .returned (.bool true) ∧ Below w.heap.size w w' := by
  go_enter Try.func6, Try.ntmps6
  go_wp2_with fail
  refine (new_any w).mono ?_
  rintro e w1 ⟨rfl, t1, b1⟩
  have HT1 := hide t1
  have HB1 := hide b1
  clear t1 b1
  go_wp2_with fail
  refine (set_any w.heap.size [] ⟨#[97]⟩ 5 w1 HT1.out (by rw [show (ByteArray.mk #[97]).size = 1 from rfl]; omega)).mono ?_
  rintro e w2 ⟨rfl, t2, k2⟩
  rw [delN_nil] at t2
  have HT2 := hide t2
  have HK2 := hide k2
  clear t2 k2
  go_wp2_with fail
  refine (due_any w.heap.size _ 4 w2 HT2.out).mono ?_
  rintro e w3 ⟨n, m, z, l', rfl, hd, t3, k3⟩
  obtain ⟨rfl, rfl, rfl, rfl⟩ := hd.early (by decide)
  have HT3 := hide t3
  have HK3 := hide k3
  clear hd t3 k3
  go_wp2_with fail
  refine (due_any w.heap.size _ 5 w3 HT3.out).mono ?_
  rintro e w4 ⟨n, m, z, l', rfl, hd, t4, k4⟩
  obtain ⟨rfl, rfl, rfl⟩ := hd.late (by decide)
  have HB4 : Hid (Below w.heap.size w w4) := by
    show Below _ _ _
    have kk := ((HK2.out.trans HK3.out (fun x _ h => h)).trans k4 (fun x _ h => h))
    exact HB1.out.trans (kk.below _ HB1.out.size (fun x hx => by subst hx; omega))
  clear hd t4 k4
  go_wp2
  go_ret
  exact ⟨rfl, HB4.out⟩
end Go.Proofs.Ythbgalknhodgnaa
