/- MsgHead's walk. -/
import Derived.Test.YtcbonpofbmogjaaGreatDoorMgAn
import Derived.Test.YtcbonpofbmogjaaGreatDoorRgH
namespace Go.Proofs.YtcbonpofbmogjaaGreatDoor
open Go.RowKit
set_option maxRecDepth 100000

theorem headM_lt {bs : List Nat} (h : ∀ x ∈ bs, x < 256) : ∀ x ∈ (headM bs).2.2.2, x < 256 := by
  unfold headM
  repeat' split
  all_goals first | (intro x hx; exact h x (List.mem_of_mem_drop (List.mem_of_mem_take hx))) | (intro x hx; simp at hx)
theorem headM_le (bs : List Nat) : (headM bs).2.2.2.length ≤ 2 := by
  unfold headM
  repeat' split
  all_goals first | (simp; done) | (simp; omega)
/-- SameNote of two Notes that are the same. -/
theorem same_notes (W : World) (k s : Nat) (d : List Nat) (a1 a2 : Option Addr) (c1 c2 n : Nat) (hn : d.length = n) (hl : n ≤ 50000) (h1 : BRd W a1 d) (h2 : BRd W a2 d) :
    Calls Tryz.prog 11 #[.agg #[.int .i64 (k : Int), .int .i64 (s : Int), .slice a1 n c1], .agg #[.int .i64 (k : Int), .int .i64 (s : Int), .slice a2 n c2]] W fun e w' => e = .returned (.bool true) ∧ Below W.heap.size W w' := by
  subst hn
  refine (samenote_any (k : Int) (s : Int) (k : Int) (s : Int) a1 a2 c1 c2 d d W (by omega) h1 h2).mono ?_
  rintro e w' ⟨rfl, hb⟩
  exact ⟨ret_bool (by simp), hb⟩
theorem own_read {w : World} {B n : Nat} {a : Option Addr} {c : Nat} {d : List Nat} (h : w.ownsRow B 5 1 (.slice a n c) n (bcells d)) (hn : d.length = n) (hl : n ≤ 50000) (hb : ∀ x ∈ d, x < 256) : BRd w a d := by
  subst hn
  obtain ⟨a', c', e, _, hr⟩ := own_brd h (by omega) hb
  simp only [Value.slice.injEq] at e
  rw [e.1]
  exact hr
set_option maxHeartbeats 1600000 in
theorem msgHead_walk (b0 : Option Addr) (c0 : Nat) (bs0 : List Nat) (W : World) (hS : SaidM W) (hc : bs0.length ≤ c0) (h : BRd W b0 bs0) : Calls Tryz.prog 4 #[.slice b0 bs0.length c0] W fun e W' => e = .returned (.bool true) ∧ Below W.heap.size W W' := by
  by_cases h5 : 5000 < bs0.length
  · have hi : (5000 : Int) < (bs0.length : Int) := by omega
    have KA := hide (answers_any W hS)
    clear h5 hc h hS
    generalize bs0.length = n at *
    go_enter Tryz.func4, Tryz.ntmps4
    go_wp2_with fail
    with_reducible refine KA.out.mono ?_
    rintro e w1 ⟨rfl, hb⟩
    have HB := hide hb
    go_wp2
    go_ret
    exact ⟨rfl, HB.out⟩
  · have hi : (bs0.length : Int) ≤ 5000 := by omega
    have K1 := head_any b0 c0 bs0 W (by omega) hc h hS
    have K2 : Hid (∀ X, Below W.heap.size W X → Calls Tryz.prog 14 #[.slice b0 bs0.length c0] X fun e w' => HdIs X w' e (headM bs0) ∧ Below X.heap.size X w') := fun X hX => rhead_any b0 c0 bs0 X (by omega) hc (h.below hX)
    have KA : Hid (∀ X, Below W.heap.size W X → Calls Tryz.prog 8 #[] X fun e w' => e = .returned (.bool true) ∧ Below X.heap.size X w') := fun X hX => answers_any X (hS.below hX)
    have hd := headM_lt h.2
    have hdl := headM_le bs0
    unfold HdIs NoteIs at K1 K2
    generalize headM bs0 = r at *
    obtain ⟨k, code, sub, d⟩ := r
    simp only at K1 K2 hd hdl
    have HKS : Hid (∀ X a1 c1 a2 c2, BRd X a1 d → BRd X a2 d → Calls Tryz.prog 11 #[.agg #[.int .i64 (code : Int), .int .i64 (sub : Int), .slice a1 d.length c1], .agg #[.int .i64 (code : Int), .int .i64 (sub : Int), .slice a2 d.length c2]] X fun e w' => e = .returned (.bool true) ∧ Below X.heap.size X w') := fun X a1 c1 a2 c2 h1 h2 => same_notes X code sub d a1 a2 c1 c2 _ rfl (by omega) h1 h2
    obtain ⟨dl, hdd⟩ : ∃ dl, d.length = dl := ⟨_, rfl⟩
    rw [hdd] at K1 K2 HKS hdl
    have HRD : Hid (∀ (X : World) B a c, X.ownsRow B 5 1 (.slice a dl c) dl (bcells d) → BRd X a d) := fun X B a c ho => own_read ho hdd (by omega) hd
    have HK1 := hide K1
    clear K1 h5 hc h hS hd hdd hdl
    generalize bs0.length = n at *
    go_enter Tryz.func4, Tryz.ntmps4
    go_wp2_with fail
    with_reducible refine HK1.out.mono ?_
    rintro e w1 ⟨⟨u, rfl, a1, c1, rfl, ho1⟩, hb1⟩
    have HO1 := hide ho1
    have HB1 := hide hb1
    clear ho1 hb1
    have HBA : Hid (Below W.heap.size W (w1.alloc (.cells #[.int .i64 (code : Int), .int .i64 (sub : Int), .slice a1 dl c1] 38))) := HB1.out.alloc HB1.out.size _
    go_wp2_with fail
    with_reducible refine (K2.out _ HBA.out).mono ?_
    rintro e w2 ⟨⟨u, rfl, a2, c2, rfl, ho2⟩, hb2⟩
    have HO2 := hide ho2
    have HB2 := hide hb2
    clear ho2 hb2
    have x0 : w2.cell? ⟨w1.heap.size, 0, none⟩ = some (.int .i64 (code : Int)) := by rw [HB2.out.cell (p := ⟨w1.heap.size, 0, none⟩) (by simp)]; simp [go_sem]
    have x1 : w2.cell? ⟨w1.heap.size, 1, none⟩ = some (.int .i64 (sub : Int)) := by rw [HB2.out.cell (p := ⟨w1.heap.size, 1, none⟩) (by simp)]; simp [go_sem]
    have x2 : w2.cell? ⟨w1.heap.size, 2, none⟩ = some (.slice a1 dl c1) := by rw [HB2.out.cell (p := ⟨w1.heap.size, 2, none⟩) (by simp)]; simp [go_sem]
    have hz1 : w1.heap.size < w2.heap.size := by have := HB2.out.size; simp at this; omega
    have HBB : Hid (Below W.heap.size W (w2.alloc (.cells #[.int .i64 (code : Int), .int .i64 (sub : Int), .slice a2 dl c2] 38))) := (HBA.out.trans (HB2.out.mono HBA.out.size)).alloc (by have := HBA.out.size; have := HB2.out.size; omega) _
    have HO1' : Hid (w2.ownsRow W.heap.size 5 1 (.slice a1 dl c1) dl (bcells d)) := own_later (HO1.out.alloc _) HB2.out
    go_wp2_with fail
    with_reducible refine (KA.out _ HBB.out).mono ?_
    rintro e w3 ⟨rfl, hb3⟩
    have HB3 := hide hb3
    clear hb3
    have y0 : w3.cell? ⟨w1.heap.size, 0, none⟩ = some (.int .i64 (code : Int)) := by rw [HB3.out.cell (p := ⟨w1.heap.size, 0, none⟩) (by simp; omega)]; simp [go_sem, hz1, x0]
    have y1 : w3.cell? ⟨w1.heap.size, 1, none⟩ = some (.int .i64 (sub : Int)) := by rw [HB3.out.cell (p := ⟨w1.heap.size, 1, none⟩) (by simp; omega)]; simp [go_sem, hz1, x1]
    have y2 : w3.cell? ⟨w1.heap.size, 2, none⟩ = some (.slice a1 dl c1) := by rw [HB3.out.cell (p := ⟨w1.heap.size, 2, none⟩) (by simp; omega)]; simp [go_sem, hz1, x2]
    have v0 : w3.cell? ⟨w2.heap.size, 0, none⟩ = some (.int .i64 (code : Int)) := by rw [HB3.out.cell (p := ⟨w2.heap.size, 0, none⟩) (by simp)]; simp [go_sem]
    have v1 : w3.cell? ⟨w2.heap.size, 1, none⟩ = some (.int .i64 (sub : Int)) := by rw [HB3.out.cell (p := ⟨w2.heap.size, 1, none⟩) (by simp)]; simp [go_sem]
    have v2 : w3.cell? ⟨w2.heap.size, 2, none⟩ = some (.slice a2 dl c2) := by rw [HB3.out.cell (p := ⟨w2.heap.size, 2, none⟩) (by simp)]; simp [go_sem]
    have hz3 : w2.heap.size < w3.heap.size := by have := HB3.out.size; simp at this; omega
    have hz4 : w1.heap.size < w3.heap.size := by omega
    have HR1 := hide (HRD.out w3 _ a1 c1 (own_later (HO1'.out.alloc _) HB3.out))
    have HR2 := hide (HRD.out w3 _ a2 c2 (own_later (HO2.out.alloc _) HB3.out))
    have HBC : Hid (Below W.heap.size W w3) := HBB.out.trans (HB3.out.mono HBB.out.size)
    clear x0 x1 x2
    go_wp2_with fail
    with_reducible refine (HKS.out w3 a1 c1 a2 c2 HR1.out HR2.out).mono ?_
    rintro e w4 ⟨rfl, hb4⟩
    have HB4 := hide hb4
    clear hb4
    go_wp2
    go_ret
    exact ⟨rfl, HBC.out.trans (HB4.out.mono HBC.out.size)⟩
end Go.Proofs.YtcbonpofbmogjaaGreatDoor
