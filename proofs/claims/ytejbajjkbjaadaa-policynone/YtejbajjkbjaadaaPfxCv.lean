/- The program's Covers. -/
import Derived.Test.YtejbajjkbjaadaaPfxCov
import Derived.Deep.RegionHeld3
namespace Go.Proofs.Ytejbajjkbjaadaa
open Go.RowKit
set_option maxRecDepth 100000

set_option maxHeartbeats 3200000 in
theorem covers_yes (A n B : Nat) (M : Int) (w : World) (hA : A < 4294967296) (hB : B < 4294967296) (h : rightB A n = true) (hn : n ≤ 32) :
    Calls Try.prog 21 #[pfx A n, pfx B M] w fun e w' => e = .returned (.bool (covB A n B M)) ∧ Below w.heap.size w w' := by
  have HR := hide h
  clear h
  unfold pfx
  go_enter Try.func21, Try.ntmps21
  go_wp2_with fail
  first
  | fail
  | (go_region_held3 (fun w' => w'.cell? ⟨w.heap.size, 0, none⟩ = some (.int .u32 (A : Int)) ∧ w'.cell? ⟨w.heap.size, 1, none⟩ = some (.int .i64 (n : Int)) ∧ w'.cell? ⟨w.heap.size + 1, 0, none⟩ = some (.int .u32 (B : Int)) ∧ w'.cell? ⟨w.heap.size + 1, 1, none⟩ = some (.int .i64 M))
      (first
        | (go_split_ands; refine ⟨?_, ?_, ?_, ?_⟩ <;> (first | assumption | (simp [go_sem]; done) | (rw [World.cell?_alloc_lt _ _ _ (by simp <;> omega)]; assumption))))
      (first
        | (have HB1 := HB; go_at_call 25; refine (meets_three A n B M _ hn hB _ 3 w1.heap.size (w1.heap.size + 1) (by simp [go_sem]) (by simp [go_sem]) (by simp [go_sem]) (by simp [go_sem]) (by simp [go_sem]) (by simp [go_sem]) HR.out).mono ?_; rintro e w4 ⟨rfl, hb⟩; have r0 : w4.cell? ⟨w.heap.size, 0, none⟩ = some (.int .u32 (A : Int)) := (by rw [hb.cell (p := ⟨w.heap.size, 0, none⟩) (by simp <;> omega), World.cell?_alloc_lt _ _ _ (by simp <;> omega), World.cell?_alloc_lt _ _ _ (by simp <;> omega), World.cell?_alloc_lt _ _ _ (by simp <;> omega)]; exact q0); have r1 : w4.cell? ⟨w.heap.size, 1, none⟩ = some (.int .i64 (n : Int)) := (by rw [hb.cell (p := ⟨w.heap.size, 1, none⟩) (by simp <;> omega), World.cell?_alloc_lt _ _ _ (by simp <;> omega), World.cell?_alloc_lt _ _ _ (by simp <;> omega), World.cell?_alloc_lt _ _ _ (by simp <;> omega)]; exact q1); have r2 : w4.cell? ⟨w.heap.size + 1, 0, none⟩ = some (.int .u32 (B : Int)) := (by rw [hb.cell (p := ⟨w.heap.size + 1, 0, none⟩) (by simp <;> omega), World.cell?_alloc_lt _ _ _ (by simp <;> omega), World.cell?_alloc_lt _ _ _ (by simp <;> omega), World.cell?_alloc_lt _ _ _ (by simp <;> omega)]; exact q2); have r3 : w4.cell? ⟨w.heap.size + 1, 1, none⟩ = some (.int .i64 M) := (by rw [hb.cell (p := ⟨w.heap.size + 1, 1, none⟩) (by simp <;> omega), World.cell?_alloc_lt _ _ _ (by simp <;> omega), World.cell?_alloc_lt _ _ _ (by simp <;> omega), World.cell?_alloc_lt _ _ _ (by simp <;> omega)]; exact q3); have HB4 : Hid (Below w.heap.size w w4) := (((HB.out.alloc (by omega) _).alloc (by simp <;> omega) _).alloc (by simp <;> omega) _).trans (hb.mono (by simp <;> omega)); clear hb)
        | (go_at_call 25; refine (meets_one A n _ hA _ 1 (by simp [go_sem])).mono ?_; rw [HR.out]; rintro e w1 ⟨rfl, hb⟩
           have q0 : w1.cell? ⟨w.heap.size, 0, none⟩ = some (.int .u32 (A : Int)) := (by rw [hb.cell (p := ⟨w.heap.size, 0, none⟩) (by simp <;> omega)]; simp [go_sem])
           have q1 : w1.cell? ⟨w.heap.size, 1, none⟩ = some (.int .i64 (n : Int)) := (by rw [hb.cell (p := ⟨w.heap.size, 1, none⟩) (by simp <;> omega)]; simp [go_sem])
           have q2 : w1.cell? ⟨w.heap.size + 1, 0, none⟩ = some (.int .u32 (B : Int)) := (by rw [hb.cell (p := ⟨w.heap.size + 1, 0, none⟩) (by simp <;> omega)]; simp [go_sem])
           have q3 : w1.cell? ⟨w.heap.size + 1, 1, none⟩ = some (.int .i64 M) := (by rw [hb.cell (p := ⟨w.heap.size + 1, 1, none⟩) (by simp <;> omega)]; simp [go_sem])
           have hz0 : w.heap.size < w1.heap.size := (by have := hb.size; simp at this; omega)
           have hz1 : w.heap.size + 1 < w1.heap.size := (by have := hb.size; simp at this; omega)
           have HB : Hid (Below w.heap.size w w1) := ((((Below.refl _ _).alloc (Nat.le_refl _) _).alloc (by simp) _).alloc (by simp <;> omega) _).drew.trans (hb.mono (by simp <;> omega))
           clear hb)
        | (go_at_call 27; refine (atLeast_any n _).mono ?_; rintro e w2 ⟨rfl, rfl⟩)
        | (go_at_call 28; refine (begins_any A n _).mono ?_; rintro e w3 ⟨rfl, rfl⟩)))
  go_wp2
  go_ret
  exact ⟨rfl, HB4.out⟩
end Go.Proofs.Ytejbajjkbjaadaa
