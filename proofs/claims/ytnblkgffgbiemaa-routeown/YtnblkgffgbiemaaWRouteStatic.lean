/- RouteStatic's walk. -/
import Derived.Test.YtnblkgffgbiemaaRtX
namespace Go.Proofs.Ytnblkgffgbiemaa
open Go.RowKit
set_option maxRecDepth 100000

theorem eqA_self (a : At) : eqA a a = true := by simp [eqA, eqHead, eqP]
theorem eqRt_self (r : Rt) : eqRt r r = true := by simp [eqRt, eqA_self]
section
variable {ρ : Operand → Value} {dst : Option Tmp} {ty : TypeId} {pos : String} {after : Array Edge} {gd : Option (Nat × Bool)}
theorem exec_loadR {w : World} {X : Nat} {x : Operand} {C : Array Value} (hx : ρ x = .pointer (some ⟨X, 0, none⟩)) (h : Bl w X C) (hC : RC C) :
    (execOp ρ { dst := dst, op := .load 31 x, type := ty, pos := pos, after := after, guard := gd }).run Try.prog w = .ok (.value (.agg C)) w := by
  have hr := run_loadR h hC
  unfold execOp
  simp only [hx, Sem.run_bind, hr, Result.andThen_ok, Sem.run_pure]
theorem exec_build3 {w : World} {t : TypeId} {i j k : Nat} {x y z : Operand} {p q s v : Value} (hx : ρ x = p) (hy : ρ y = q) (hz : ρ z = s) (hr : (Instr.build t #[(i, p), (j, q), (k, s)]).run Try.prog w = .ok v w) :
    (execOp ρ { dst := dst, op := .build t #[(i, x), (j, y), (k, z)], type := ty, pos := pos, after := after, guard := gd }).run Try.prog w = .ok (.value v) w := by
  unfold execOp
  have e : (#[(i, x), (j, y), (k, z)].map fun (i, x) => (i, ρ x)) = #[(i, p), (j, q), (k, s)] := by simp [hx, hy, hz]
  simp only [e, Sem.run_bind, hr, Result.andThen_ok, Sem.run_pure]
end
set_option maxHeartbeats 3200000 in
theorem routeStatic_walk (A : Nat) (L : Int) (nx : Nat) (w : World) (hn : nx < 4294967296) :
    Calls Try.prog 6 #[.agg #[.int .u32 (A : Int), .int .i64 L], .int .u32 (nx : Int)] w fun e w' => e = .returned (.bool true) ∧ Below w.heap.size w w' := by
  go_enter Try.func6, Try.ntmps6
  go_wp2_with fail
  have HB0 : Hid (Below w.heap.size w (w.alloc (.cells #[.int .u32 (A : Int), .int .i64 L] 24))) := (Below.refl _ _).alloc (Nat.le_refl _) _
  have HX0 : Hid ((w.alloc (.cells #[.int .u32 (A : Int), .int .i64 L] 24)).cell? ⟨w.heap.size, 0, none⟩ = some (.int .u32 (A : Int)) ∧ (w.alloc (.cells #[.int .u32 (A : Int), .int .i64 L] 24)).cell? ⟨w.heap.size, 1, none⟩ = some (.int .i64 L)) := ⟨by simp [go_sem], by simp [go_sem]⟩
  have hz0 : w.heap.size < (w.alloc (.cells #[.int .u32 (A : Int), .int .i64 L] 24)).heap.size := by simp
  generalize w.alloc (.cells #[.int .u32 (A : Int), .int .i64 L] 24) = w0 at *
  have HS : Hid (∀ w', Below w0.heap.size w0 w' → w'.cell? ⟨w.heap.size, 0, none⟩ = some (.int .u32 (A : Int)) ∧ w'.cell? ⟨w.heap.size, 1, none⟩ = some (.int .i64 L)) := fun w' hb =>
    ⟨by rw [hb.cell (p := ⟨w.heap.size, 0, none⟩) hz0]; exact HX0.out.1, by rw [hb.cell (p := ⟨w.heap.size, 1, none⟩) hz0]; exact HX0.out.2⟩
  clear HX0 hz0
  refine region_ord (fun w' => w'.cell? ⟨w.heap.size, 0, none⟩ = some (.int .u32 (A : Int)) ∧ w'.cell? ⟨w.heap.size, 1, none⟩ = some (.int .i64 L)) (fun k => k == 0 || k == 4 || k == 9) [0, 1, 2, 3, 5, 6, 7, 8, 4, 9, 10, 11] (by kernel_rfl) (by kernel_rfl) (by rfl) (by kernel_rfl) (HS.out _ (Below.refl _ _).drew) ?_
  refine ord_l (by rfl) (by rfl) (by rfl) ?_
  go_simp
  refine (answers_any _).mono ?_
  rintro e w1 ⟨rfl, hb1⟩
  have hb1' : Below w0.heap.size w0 w1 := (Below.refl _ _).drew.trans hb1
  refine ⟨HS.out _ hb1', ?_⟩
  iterate 6 refine ord_q (by rfl) (by rfl) (by rfl) (fun w9 h9 => (by obtain ⟨p0, p1⟩ := h9; go_simp; first | done | rfl)) (by go_simp; first | done | rfl) ?_
  refine ord_q (by rfl) (by rfl) (by rfl) (fun w9 h9 => exec_build3 (by rfl) (by rfl) (by rfl) (run_buildS A L nx w9)) (by go_simp; first | done | rfl) ?_
  refine ord_l (by rfl) (by rfl) (by rfl) ?_
  go_simp
  refine (static_any A L nx _).mono ?_
  rintro e w2 ⟨rfl, hb2⟩
  have hb2' : Below w0.heap.size w0 w2 := hb1'.trans (hb2.mono hb1'.size)
  refine ⟨HS.out _ hb2', ?_⟩
  refine ord_l (by rfl) (by rfl) (by rfl) ?_
  go_simp
  refine (samer_any none 0 none 0 none 0 none 0 none 0 none 0 (stR A L nx) (stR A L nx) w2 (by show 0 ≤ 100000; omega) (by show 0 ≤ 100000; omega) (AtRd.none _ _ _ _ _ hn) (AtRd.none _ _ _ _ _ hn)).mono ?_
  rw [eqRt_self]
  rintro e w3 ⟨rfl, hb3⟩
  have hb3' : Below w0.heap.size w0 w3 := hb2'.trans (hb3.mono hb2'.size)
  refine ⟨HS.out _ hb3', ?_⟩
  repeat refine ord_q (by rfl) (by rfl) (by rfl) (fun w9 h9 => (by go_simp; first | done | rfl)) (by go_simp; first | done | rfl) ?_
  refine ⟨fun _ h => (by cases h), ?_⟩
  go_wp2
  go_ret
  exact ⟨rfl, HB0.out.trans (hb3'.mono HB0.out.size)⟩
end Go.Proofs.Ytnblkgffgbiemaa
