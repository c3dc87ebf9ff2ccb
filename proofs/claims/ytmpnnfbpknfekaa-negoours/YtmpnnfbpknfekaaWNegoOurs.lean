/- NegoOurs' walk. -/
import Derived.Test.YtmpnnfbpknfekaaNgD
import Derived.Test.YtmpnnfbpknfekaaMix
namespace Go.Proofs.Ytmpnnfbpknfekaa
open Go.RowKit
set_option maxRecDepth 100000

theorem run_eqO (o : Opn) (w : World) : (binOp .eql 29 (opV o) (opV o)).run Try.prog w = .ok (.bool true) w := by
  simp [opV, binOp, Op.equal, Op.maxDepth, go_sem]
section
variable {ρ : Operand → Value} {dst : Option Tmp} {ty t2 : TypeId} {pos : String} {after : Array Edge} {gd : Option (Nat × Bool)}
theorem exec_eqO {w : World} {x y : Operand} {o : Opn} (hx : ρ x = opV o) (hy : ρ y = opV o) :
    (execOp ρ { dst := dst, op := .binOp .eql 29 x y t2, type := ty, pos := pos, after := after, guard := gd }).run Try.prog w = .ok (.value (.bool true)) w := by
  have hr := run_eqO o w
  have hg : (eqGuard .eql 29 x y (opV o) (opV o)).run Try.prog w = .ok () w := by kernel_rfl
  unfold execOp
  simp only [hx, hy, Sem.run_bind, hg, hr, Result.andThen_ok, Sem.run_pure]
end
set_option maxHeartbeats 1600000 in
theorem negoOurs_walk (c : Cf) (rs fwd : Bool) (w : World) (_ : c.id < 4294967296) (_ : I64 c.asn) :
    Calls Try.prog 3 #[cfV c, .bool rs, .bool fwd] w fun e w' => e = .returned (.bool true) ∧ Below w.heap.size w w' := by
  obtain ⟨a, i, n, h, g, l, s, d⟩ := c
  simp only [cfV]
  go_enter Try.func3, Try.ntmps3
  go_wp2_with fail
  have HB0 : Hid (Below w.heap.size w (w.alloc (.cells #[.int .i64 a, .int .u32 (i : Int), .int .u32 (n : Int), .int .i64 h, .int .i64 g, .int .i64 l, .int .i64 s, .int .i64 d] 24))) := (Below.refl _ _).alloc (Nat.le_refl _) _
  have HS : Hid (∀ w', Below (w.alloc (.cells #[.int .i64 a, .int .u32 (i : Int), .int .u32 (n : Int), .int .i64 h, .int .i64 g, .int .i64 l, .int .i64 s, .int .i64 d] 24)).heap.size (w.alloc (.cells #[.int .i64 a, .int .u32 (i : Int), .int .u32 (n : Int), .int .i64 h, .int .i64 g, .int .i64 l, .int .i64 s, .int .i64 d] 24)) w' → CfgAt w' w.heap.size a i n h g l s d) := fun w' hb => cfg_box hb
  generalize w.alloc (.cells #[.int .i64 a, .int .u32 (i : Int), .int .u32 (n : Int), .int .i64 h, .int .i64 g, .int .i64 l, .int .i64 s, .int .i64 d] 24) = w0 at *
  refine region_ord (fun w' => CfgAt w' w.heap.size a i n h g l s d) (fun k => k == 0 || k == 5 || k == 9) [0, 1, 2, 3, 4, 6, 7, 8, 5, 9, 10, 11, 12] (by kernel_rfl) (by kernel_rfl) (by rfl) (by kernel_rfl) (HS.out _ (Below.refl _ _).drew) ?_
  refine ord_l (by rfl) (by rfl) (by rfl) ?_
  go_simp
  refine (answers_any _).mono ?_
  rintro e w1 ⟨rfl, hb1⟩
  have hb1' : Below w0.heap.size w0 w1 := (Below.refl _ _).drew.trans hb1
  refine ⟨HS.out _ hb1', ?_⟩
  iterate 7 refine ord_q (by rfl) (by rfl) (by rfl) (fun w9 h9 => (by obtain ⟨p0, p1, p2, p3, p4, p5, p6, p7, pz⟩ := h9; go_simp; first | done | rfl)) (by go_simp; first | done | rfl) ?_
  refine ord_l (by rfl) (by rfl) (by rfl) ?_
  go_simp
  refine (pours_any ⟨a, i, n, h, g, l, s, d⟩ rs fwd _).mono ?_
  rintro e w2 ⟨rfl, hb2⟩
  have hb2' : Below w0.heap.size w0 w2 := hb1'.trans (hb2.mono hb1'.size)
  refine ⟨HS.out _ hb2', ?_⟩
  refine ord_l (by rfl) (by rfl) (by rfl) ?_
  go_simp
  refine (rours_any ⟨a, i, n, h, g, l, s, d⟩ rs fwd _).mono ?_
  rintro e w3 ⟨rfl, hb3⟩
  have hb3' : Below w0.heap.size w0 w3 := hb2'.trans (hb3.mono hb2'.size)
  refine ⟨HS.out _ hb3', ?_⟩
  refine ord_q (by rfl) (by rfl) (by rfl) (fun w9 h9 => exec_eqO (o := oursO ⟨a, i, n, h, g, l, s, d⟩ rs fwd) (by rfl) (by rfl)) (by go_simp; first | done | rfl) ?_
  repeat refine ord_q (by rfl) (by rfl) (by rfl) (fun w9 h9 => (by go_simp; first | done | rfl)) (by go_simp; first | done | rfl) ?_
  refine ⟨fun _ h => (by cases h), ?_⟩
  go_wp2
  go_ret
  exact ⟨rfl, HB0.out.trans (hb3'.mono HB0.out.size)⟩
end Go.Proofs.Ytmpnnfbpknfekaa
