/- NegoChecks' walk. -/
import Derived.Test.YtmpnnfbpknfekaaNgD
import Derived.Test.YtmpnnfbpknfekaaMix
namespace Go.Proofs.Ytmpnnfbpknfekaa
open Go.RowKit
set_option maxRecDepth 100000

/-- A PeerConf's box, and an OPEN's. -/
def PcAt (w' : World) (b : Nat) (n a : Int) (ia : Option Addr) (il ic : Nat) (oa : Option Addr) (ol oc : Nat) : Prop := w'.cell? ⟨b, 0, none⟩ = some (.int .i64 n) ∧ w'.cell? ⟨b, 1, none⟩ = some (.int .i64 a) ∧ w'.cell? ⟨b, 2, none⟩ = some (.slice ia il ic) ∧ w'.cell? ⟨b, 3, none⟩ = some (.slice oa ol oc) ∧ b < w'.heap.size
def OpAt (w' : World) (b : Nat) (a h i : Int) (x0 : Bool) (x1 : Int) (x2 x3 : Bool) (x4 : Int) (x5 x6 x7 : Bool) (x8 : Int) : Prop := w'.cell? ⟨b, 0, none⟩ = some (.int .i64 a) ∧ w'.cell? ⟨b, 1, none⟩ = some (.int .i64 h) ∧ w'.cell? ⟨b, 2, none⟩ = some (.int .u32 i) ∧ w'.cell? ⟨b, 3, none⟩ = some (.bool x0) ∧ w'.cell? ⟨b, 4, none⟩ = some (.int .i64 x1) ∧ w'.cell? ⟨b, 5, none⟩ = some (.bool x2) ∧ w'.cell? ⟨b, 6, none⟩ = some (.bool x3) ∧ w'.cell? ⟨b, 7, none⟩ = some (.int .i64 x4) ∧ w'.cell? ⟨b, 8, none⟩ = some (.bool x5) ∧ w'.cell? ⟨b, 9, none⟩ = some (.bool x6) ∧ w'.cell? ⟨b, 10, none⟩ = some (.bool x7) ∧ w'.cell? ⟨b, 11, none⟩ = some (.int .i64 x8) ∧ b < w'.heap.size
theorem PcAt.below {w w' : World} {b : Nat} {n a : Int} {ia : Option Addr} {il ic : Nat} {oa : Option Addr} {ol oc : Nat} (x : PcAt w b n a ia il ic oa ol oc) (hb : Below w.heap.size w w') : PcAt w' b n a ia il ic oa ol oc := by
  obtain ⟨h0, h1, h2, h3, hz⟩ := x
  have hq := hb.size
  exact ⟨by rw [hb.cell (p := ⟨b, 0, none⟩) hz]; exact h0, by rw [hb.cell (p := ⟨b, 1, none⟩) hz]; exact h1, by rw [hb.cell (p := ⟨b, 2, none⟩) hz]; exact h2, by rw [hb.cell (p := ⟨b, 3, none⟩) hz]; exact h3, by omega⟩
theorem OpAt.below {w w' : World} {b : Nat} {a h i : Int} {x0 : Bool} {x1 : Int} {x2 x3 : Bool} {x4 : Int} {x5 x6 x7 : Bool} {x8 : Int} (x : OpAt w b a h i x0 x1 x2 x3 x4 x5 x6 x7 x8) (hb : Below w.heap.size w w') : OpAt w' b a h i x0 x1 x2 x3 x4 x5 x6 x7 x8 := by
  obtain ⟨h0, h1, h2, h3, h4, h5, h6, h7, h8, h9, h10, h11, hz⟩ := x
  have hq := hb.size
  exact ⟨by rw [hb.cell (p := ⟨b, 0, none⟩) hz]; exact h0, by rw [hb.cell (p := ⟨b, 1, none⟩) hz]; exact h1, by rw [hb.cell (p := ⟨b, 2, none⟩) hz]; exact h2, by rw [hb.cell (p := ⟨b, 3, none⟩) hz]; exact h3, by rw [hb.cell (p := ⟨b, 4, none⟩) hz]; exact h4, by rw [hb.cell (p := ⟨b, 5, none⟩) hz]; exact h5, by rw [hb.cell (p := ⟨b, 6, none⟩) hz]; exact h6, by rw [hb.cell (p := ⟨b, 7, none⟩) hz]; exact h7, by rw [hb.cell (p := ⟨b, 8, none⟩) hz]; exact h8, by rw [hb.cell (p := ⟨b, 9, none⟩) hz]; exact h9, by rw [hb.cell (p := ⟨b, 10, none⟩) hz]; exact h10, by rw [hb.cell (p := ⟨b, 11, none⟩) hz]; exact h11, by omega⟩
theorem chkD_len (c : Cf) (o : Opn) : (chkD c o).length ≤ 1000000 := by
  unfold chkD
  split <;> simp [by4i]
set_option maxHeartbeats 3200000 in
theorem negoChecks_walk (c : Cf) (n pa : Int) (ia : Option Addr) (il ic : Nat) (oa : Option Addr) (ol oc : Nat) (o : Opn) (w : World) (_ : c.id < 4294967296) (_ : I64 c.asn) (_ : I64 pa) (_ : o.id < 4294967296) :
    Calls Try.prog 4 #[cfV c, pcV n pa ia il ic oa ol oc, opV o] w fun e w' => e = .returned (.bool true) ∧ Below w.heap.size w w' := by
  obtain ⟨k, k2, D, hD, HP, HR⟩ : ∃ k k2 : Int, ∃ D : List Nat, D.length ≤ 1000000 ∧
      Hid (∀ w, Calls Try.prog 11 #[cfV c, pcV n pa ia il ic oa ol oc, opV o] w fun e w' => (∃ a9 c9, e = .returned (.agg #[.int .i64 k2, .int .i64 k, .slice a9 D.length c9]) ∧ BRd w' a9 D) ∧ Below w.heap.size w w') ∧
      Hid (∀ w, Calls Try.prog 12 #[cfV c, pcV n pa ia il ic oa ol oc, opV o] w fun e w' => (∃ a9 c9, e = .returned (.agg #[.int .i64 k2, .int .i64 k, .slice a9 D.length c9]) ∧ BRd w' a9 D) ∧ Below w.heap.size w w') :=
    ⟨chkN c pa o, _, chkD c o, chkD_len c o, fun w => pcheck_any c n pa ia il ic oa ol oc o w, fun w => rcheck_any c n pa ia il ic oa ol oc o w⟩
  obtain ⟨m, HH, HG⟩ : ∃ m : Int, Hid (∀ w, Calls Try.prog 13 #[cfV c, opV o] w fun e w' => e = .returned (.int .i64 m) ∧ Below w.heap.size w w') ∧ Hid (∀ w, Calls Try.prog 14 #[cfV c, opV o] w fun e w' => e = .returned (.int .i64 m) ∧ Below w.heap.size w w') :=
    ⟨_, fun w => phold_any c o w, fun w => rhold_any c o w⟩
  obtain ⟨ca, ci, cn, ch, cg, cl, cs, cd⟩ := c
  obtain ⟨x, y, z, x0, x1, x2, x3, x4, x5, x6, x7, x8⟩ := o
  simp only [cfV, opV, pcV] at HP HR HH HG ⊢
  go_enter Try.func4, Try.ntmps4
  go_wp2_with fail
  obtain ⟨w0, hw0⟩ : ∃ w0, w0 = ((w.alloc (.cells #[.int .i64 ca, .int .u32 (ci : Int), .int .u32 (cn : Int), .int .i64 ch, .int .i64 cg, .int .i64 cl, .int .i64 cs, .int .i64 cd] 24)).alloc (.cells #[.int .i64 n, .int .i64 pa, .slice ia il ic, .slice oa ol oc] 34)).alloc (.cells #[.int .i64 x, .int .i64 y, .int .u32 (z : Int), .bool x0, .int .i64 x1, .bool x2, .bool x3, .int .i64 x4, .bool x5, .bool x6, .bool x7, .int .i64 x8] 29) := ⟨_, rfl⟩
  have HB0 : Hid (Below w.heap.size w w0) := by show Below _ _ _; rw [hw0]; exact (below_two _ _ _).alloc (by simp; omega) _
  have hs1 : CfgAt w0 w.heap.size ca ci cn ch cg cl cs cd := by
    rw [hw0]
    exact CfgAt.below (cfg_box (w := w) (Below.refl _ _)) (below_two _ _ _)
  have hs2 : PcAt w0 (w.heap.size + 1) n pa ia il ic oa ol oc := by
    rw [hw0]
    refine ⟨?_, ?_, ?_, ?_, ?_⟩ <;> simp [go_sem]
  have hs3 : OpAt w0 (w.heap.size + 1 + 1) x y z x0 x1 x2 x3 x4 x5 x6 x7 x8 := by
    rw [hw0]
    refine ⟨?_, ?_, ?_, ?_, ?_, ?_, ?_, ?_, ?_, ?_, ?_, ?_, ?_⟩ <;> simp [go_sem]
  have HS : Hid (∀ w', Below w0.heap.size w0 w' → CfgAt w' w.heap.size ca ci cn ch cg cl cs cd ∧ PcAt w' (w.heap.size + 1) n pa ia il ic oa ol oc ∧ OpAt w' (w.heap.size + 1 + 1) x y z x0 x1 x2 x3 x4 x5 x6 x7 x8) := fun w' hb => ⟨hs1.below hb, hs2.below hb, hs3.below hb⟩
  rw [← hw0]
  clear hw0 hs1 hs2 hs3
  refine region_ord (fun w' => CfgAt w' w.heap.size ca ci cn ch cg cl cs cd ∧ PcAt w' (w.heap.size + 1) n pa ia il ic oa ol oc ∧ OpAt w' (w.heap.size + 1 + 1) x y z x0 x1 x2 x3 x4 x5 x6 x7 x8) (fun k => k == 0 || k == 5 || k == 9 || k == 10 || k == 15 || k == 18) [0, 1, 2, 3, 4, 6, 7, 8, 5, 9, 10, 11, 12, 13, 14, 16, 17, 15, 18, 19, 20, 21] (by kernel_rfl) (by kernel_rfl) (by rfl) (by kernel_rfl) (HS.out _ (Below.refl _ _).drew) ?_
  refine ord_l (by rfl) (by rfl) (by rfl) ?_
  go_simp
  refine (answers_any _).mono ?_
  rintro e w1 ⟨rfl, hb1⟩
  have hb1' : Below w0.heap.size w0 w1 := (Below.refl _ _).drew.trans hb1
  refine ⟨HS.out _ hb1', ?_⟩
  iterate 7 refine ord_q (by rfl) (by rfl) (by rfl) (fun w9 h9 => (by obtain ⟨⟨p0, p1, p2, p3, p4, p5, p6, p7, pz⟩, ⟨q0, q1, q2, q3, qz⟩, ⟨r0, r1, r2, r3, r4, r5, r6, r7, r8, r9, r10, r11, rz⟩⟩ := h9; go_simp; first | done | rfl)) (by go_simp; first | done | rfl) ?_
  refine ord_l (by rfl) (by rfl) (by rfl) ?_
  go_simp
  refine (HP.out _).mono ?_
  rintro e w2 ⟨⟨a9, c9, rfl, hd9⟩, hb2⟩
  have hb2' : Below w0.heap.size w0 w2 := hb1'.trans (hb2.mono hb1'.size)
  refine ⟨HS.out _ hb2', ?_⟩
  refine ord_l (by rfl) (by rfl) (by rfl) ?_
  go_simp
  refine (HR.out _).mono ?_
  rintro e w3 ⟨⟨a8, c8, rfl, hd8⟩, hb3⟩
  have hb3' : Below w0.heap.size w0 w3 := hb2'.trans (hb3.mono hb2'.size)
  refine ⟨HS.out _ hb3', ?_⟩
  refine ord_l (by rfl) (by rfl) (by rfl) ?_
  go_simp
  refine (samenote_any k2 k k2 k a9 a8 c9 c8 D D w3 hD (hd9.below hb3) hd8).mono ?_
  rw [decide_eq_true (show k2 = k2 ∧ k = k ∧ D = D from ⟨rfl, rfl, rfl⟩)]
  rintro e w4 ⟨rfl, hb4⟩
  have hb4' : Below w0.heap.size w0 w4 := hb3'.trans (hb4.mono hb3'.size)
  refine ⟨HS.out _ hb4', ?_⟩
  iterate 6 refine ord_q (by rfl) (by rfl) (by rfl) (fun w9 h9 => (by obtain ⟨⟨p0, p1, p2, p3, p4, p5, p6, p7, pz⟩, ⟨q0, q1, q2, q3, qz⟩, ⟨r0, r1, r2, r3, r4, r5, r6, r7, r8, r9, r10, r11, rz⟩⟩ := h9; go_simp; first | done | rfl)) (by go_simp; first | done | rfl) ?_
  refine ord_l (by rfl) (by rfl) (by rfl) ?_
  go_simp
  refine (HH.out _).mono ?_
  rintro e w5 ⟨rfl, hb5⟩
  have hb5' : Below w0.heap.size w0 w5 := hb4'.trans (hb5.mono hb4'.size)
  refine ⟨HS.out _ hb5', ?_⟩
  refine ord_l (by rfl) (by rfl) (by rfl) ?_
  go_simp
  refine (HG.out _).mono ?_
  rintro e w6 ⟨rfl, hb6⟩
  have hb6' : Below w0.heap.size w0 w6 := hb5'.trans (hb6.mono hb5'.size)
  refine ⟨HS.out _ hb6', ?_⟩
  repeat refine ord_q (by rfl) (by rfl) (by rfl) (fun w9 h9 => (by go_simp; first | done | rfl)) (by go_simp; first | done | rfl) ?_
  refine ⟨fun _ h => (by cases h), ?_⟩
  go_wp2
  go_ret
  exact ⟨rfl, HB0.out.trans (hb6'.mono HB0.out.size)⟩
end Go.Proofs.Ytmpnnfbpknfekaa
