/- The program's questions: a row of nine (written by tools/gen_ddl.py). -/
import Derived.Test.YtolpaimmmhoiiaaHDj
namespace Go.Proofs.Ytolpaimmmhoiiaa
open Go.RowKit
set_option maxRecDepth 100000

theorem run_nine (f0 f1 f2 f3 f4 f5 f6 f7 f8 : FuncId) (b0 c0 b1 c1 b2 c2 b3 c3 b4 c4 b5 c5 b6 c6 b7 c7 b8 c8 : Array Value) (w : World) : (Instr.buildSlice 57 9 #[(0, .func (.func f0) b0 c0), (1, .func (.func f1) b1 c1), (2, .func (.func f2) b2 c2), (3, .func (.func f3) b3 c3), (4, .func (.func f4) b4 c4), (5, .func (.func f5) b5 c5), (6, .func (.func f6) b6 c6), (7, .func (.func f7) b7 c7), (8, .func (.func f8) b8 c8)]).run Try.prog w = .ok (.slice (some ⟨w.heap.size, 0, none⟩) 9 9) (w.alloc (.cells #[.func (.func f0) b0 c0, .func (.func f1) b1 c1, .func (.func f2) b2 c2, .func (.func f3) b3 c3, .func (.func f4) b4 c4, .func (.func f5) b5 c5, .func (.func f6) b6 c6, .func (.func f7) b7 c7, .func (.func f8) b8 c8] 60)) := by kernel_rfl
section
variable {P : Program} {a : Act} {w w' : World} {K : Act → World → Prop} {Q : Exit → Act → World → Prop} {dst : Option Tmp} {ty : TypeId} {pos : String} {after : Array Edge} {gd : Option (Nat × Bool)}
theorem wp_build9 {t : TypeId} (xs : Array (Nat × Operand)) (vs : Array (Nat × Value)) (v : Value) (hx : (xs.map fun (i, x) => (i, a.eval x)) = vs) (hr : (Instr.buildSlice t 9 vs).run P w = .ok v w') (h : K (a.put dst v) w') : Oper.wp P { dst := dst, op := .buildSlice t 9 xs, type := ty, pos := pos, after := after, guard := gd } a w K Q := by
  unfold Oper.wp execOp
  simp only [hx, Sem.run_bind, hr, Result.andThen_ok, Sem.run_pure]
  exact h
end
set_option maxHeartbeats 6400000 in
theorem questions_walk (num : Int) (ai : Option Addr) (n ci : Nat) (al : Option Addr) (m cl : Nat) (S : Nat → List Nat → List Nat) (w : World)
    (H0 : Hid (∀ W, Below w.heap.size w W → Calls Try.prog 21 #[.agg #[.int .i64 num, .slice ai n ci, .slice al m cl], .func (.func 22) #[] #[]] W (Made W m (S 0))))
    (H1 : Hid (∀ W, Below w.heap.size w W → Calls Try.prog 21 #[.agg #[.int .i64 num, .slice ai n ci, .slice al m cl], .func (.func 23) #[] #[]] W (Made W m (S 1))))
    (H2 : Hid (∀ W, Below w.heap.size w W → Calls Try.prog 24 #[.agg #[.int .i64 num, .slice ai n ci, .slice al m cl], .func (.func 25) #[] #[]] W (Made W m (S 2))))
    (H3 : Hid (∀ W, Below w.heap.size w W → Calls Try.prog 26 #[.agg #[.int .i64 num, .slice ai n ci, .slice al m cl], .func (.func 27) #[] #[]] W (Made W m (S 3))))
    (H4 : Hid (∀ W, Below w.heap.size w W → Calls Try.prog 26 #[.agg #[.int .i64 num, .slice ai n ci, .slice al m cl], .func (.func 28) #[] #[]] W (Made W m (S 4))))
    (H6 : Hid (∀ W, Below w.heap.size w W → Calls Try.prog 21 #[.agg #[.int .i64 num, .slice ai n ci, .slice al m cl], .func (.func 30) #[.agg #[.int .i64 num, .slice ai n ci, .slice al m cl]] #[]] W (Made W m (S 6))))
    (H7 : Hid (∀ W, Below w.heap.size w W → Calls Try.prog 26 #[.agg #[.int .i64 num, .slice ai n ci, .slice al m cl], .func (.func 31) #[.agg #[.int .i64 num, .slice ai n ci, .slice al m cl]] #[]] W (Made W m (S 7))))
    (H8 : Hid (∀ W, Below w.heap.size w W → Calls Try.prog 26 #[.agg #[.int .i64 num, .slice ai n ci, .slice al m cl], .func (.func 32) #[] #[]] W (Made W m (S 8))))
    (H5 : Hid (∀ W, Below w.heap.size w W → AsksJ W (.func (.func 29) #[.agg #[.int .i64 num, .slice ai n ci, .slice al m cl]] #[]) m (S 5))) :
    Calls Try.prog 18 #[.agg #[.int .i64 num, .slice ai n ci, .slice al m cl]] w fun e w' => (∃ g c, e = .returned (.slice (some ⟨g, 0, none⟩) 9 c) ∧ ∀ i, i < 9 → ∃ v, w'.cell? ⟨g, i, none⟩ = some v ∧ AsksJ w' v m (S i)) ∧ Below w.heap.size w w' := by
  go_enter Try.func18, Try.ntmps18
  go_wp2_with fail
  have HB0 : Hid (Below w.heap.size w (w.alloc (.cells #[.int .i64 num, .slice ai n ci, .slice al m cl] 53))) := (Below.refl _ _).alloc (Nat.le_refl _) _
  have d0 : (w.alloc (.cells #[.int .i64 num, .slice ai n ci, .slice al m cl] 53)).cell? ⟨w.heap.size, 0, none⟩ = some (.int .i64 num) := by simp [go_sem]
  have d1 : (w.alloc (.cells #[.int .i64 num, .slice ai n ci, .slice al m cl] 53)).cell? ⟨w.heap.size, 1, none⟩ = some (.slice ai n ci) := by simp [go_sem]
  have d2 : (w.alloc (.cells #[.int .i64 num, .slice ai n ci, .slice al m cl] 53)).cell? ⟨w.heap.size, 2, none⟩ = some (.slice al m cl) := by simp [go_sem]
  have z0 : (w.alloc (.cells #[.int .i64 num, .slice ai n ci, .slice al m cl] 53)).heap.size = w.heap.size + 1 := by simp
  have HZ0 := hide z0
  clear z0
  generalize w.alloc (.cells #[.int .i64 num, .slice ai n ci, .slice al m cl] 53) = w0 at *
  have HC : Hid (∀ W, Below w0.heap.size w0 W → W.cell? ⟨w.heap.size, 0, none⟩ = some (.int .i64 num) ∧ W.cell? ⟨w.heap.size, 1, none⟩ = some (.slice ai n ci) ∧ W.cell? ⟨w.heap.size, 2, none⟩ = some (.slice al m cl)) := fun W hb => by
    refine ⟨?_, ?_, ?_⟩
    · rw [hb.cell (p := ⟨w.heap.size, 0, none⟩) (by have := HZ0.out; simp only; omega)]; exact d0
    · rw [hb.cell (p := ⟨w.heap.size, 1, none⟩) (by have := HZ0.out; simp only; omega)]; exact d1
    · rw [hb.cell (p := ⟨w.heap.size, 2, none⟩) (by have := HZ0.out; simp only; omega)]; exact d2
  have HBB : Hid (∀ W, Below w0.heap.size w0 W → Below w.heap.size w W) := fun W hb => HB0.out.trans (hb.mono HB0.out.size)
  clear d0 d1 d2
  refine region_ord (fun w' => Below w0.heap.size w0 w') (fun k => k == 1 || k == 3 || k == 5 || k == 7 || k == 9 || k == 15 || k == 19 || k == 21 || k == 22) [0, 2, 4, 6, 8, 10, 12, 13, 16, 17, 20, 11, 14, 18, 1, 3, 5, 7, 9, 15, 19, 21, 22, 23] (by kernel_rfl) (by kernel_rfl) rfl (by kernel_rfl) (Below.refl _ _).drew ?_
  refine ord_q (by rfl) (by rfl) (by rfl) (fun w9 h9 => exec_loadC (by rfl) (HC.out _ h9)) (by go_simp; first | done | rfl) ?_
  refine ord_q (by rfl) (by rfl) (by rfl) (fun w9 h9 => exec_loadC (by rfl) (HC.out _ h9)) (by go_simp; first | done | rfl) ?_
  refine ord_q (by rfl) (by rfl) (by rfl) (fun w9 h9 => exec_loadC (by rfl) (HC.out _ h9)) (by go_simp; first | done | rfl) ?_
  refine ord_q (by rfl) (by rfl) (by rfl) (fun w9 h9 => exec_loadC (by rfl) (HC.out _ h9)) (by go_simp; first | done | rfl) ?_
  refine ord_q (by rfl) (by rfl) (by rfl) (fun w9 h9 => exec_loadC (by rfl) (HC.out _ h9)) (by go_simp; first | done | rfl) ?_
  refine ord_q (by rfl) (by rfl) (by rfl) (fun w9 h9 => exec_loadC (by rfl) (HC.out _ h9)) (by go_simp; first | done | rfl) ?_
  refine ord_q (by rfl) (by rfl) (by rfl) (fun w9 h9 => exec_loadC (by rfl) (HC.out _ h9)) (by go_simp; first | done | rfl) ?_
  refine ord_q (by rfl) (by rfl) (by rfl) (fun w9 h9 => exec_loadC (by rfl) (HC.out _ h9)) (by go_simp; first | done | rfl) ?_
  refine ord_q (by rfl) (by rfl) (by rfl) (fun w9 h9 => exec_loadC (by rfl) (HC.out _ h9)) (by go_simp; first | done | rfl) ?_
  refine ord_q (by rfl) (by rfl) (by rfl) (fun w9 h9 => exec_loadC (by rfl) (HC.out _ h9)) (by go_simp; first | done | rfl) ?_
  refine ord_q (by rfl) (by rfl) (by rfl) (fun w9 h9 => exec_loadC (by rfl) (HC.out _ h9)) (by go_simp; first | done | rfl) ?_
  refine ord_q (by rfl) (by rfl) (by rfl) (fun w9 h9 => (by go_simp; first | done | rfl)) (by go_simp; first | done | rfl) ?_
  refine ord_q (by rfl) (by rfl) (by rfl) (fun w9 h9 => (by go_simp; first | done | rfl)) (by go_simp; first | done | rfl) ?_
  refine ord_q (by rfl) (by rfl) (by rfl) (fun w9 h9 => (by go_simp; first | done | rfl)) (by go_simp; first | done | rfl) ?_
  refine ord_l (by rfl) (by rfl) (by rfl) ?_
  go_simp
  refine (H0.out _ (HBB.out _ ((Below.refl _ _).drew))).mono ?_
  rintro e w1 ⟨⟨v0, rfl, ha⟩, hb⟩
  obtain ⟨f0, b0, c0, e0, _⟩ := id ha
  subst e0
  have HA0 := hide ha
  have HB1 : Hid (Below w0.heap.size w0 w1) := Below.trans ((Below.refl _ _).drew) (hb.mono (by simp))
  clear ha hb
  refine ⟨HB1.out, ?_⟩
  refine ord_l (by rfl) (by rfl) (by rfl) ?_
  go_simp
  refine (H1.out _ (HBB.out _ (HB1.out))).mono ?_
  rintro e w2 ⟨⟨v1, rfl, ha⟩, hb⟩
  obtain ⟨f1, b1, c1, e1, _⟩ := id ha
  subst e1
  have HA1 := hide ha
  have HB2 : Hid (Below w0.heap.size w0 w2) := Below.trans (HB1.out) (hb.mono HB1.out.size)
  have HA0 := hide (HA0.out.below hb)
  clear ha hb
  refine ⟨HB2.out, ?_⟩
  refine ord_l (by rfl) (by rfl) (by rfl) ?_
  go_simp
  refine (H2.out _ (HBB.out _ (HB2.out))).mono ?_
  rintro e w3 ⟨⟨v2, rfl, ha⟩, hb⟩
  obtain ⟨f2, b2, c2, e2, _⟩ := id ha
  subst e2
  have HA2 := hide ha
  have HB3 : Hid (Below w0.heap.size w0 w3) := Below.trans (HB2.out) (hb.mono HB2.out.size)
  have HA0 := hide (HA0.out.below hb)
  have HA1 := hide (HA1.out.below hb)
  clear ha hb
  refine ⟨HB3.out, ?_⟩
  refine ord_l (by rfl) (by rfl) (by rfl) ?_
  go_simp
  refine (H3.out _ (HBB.out _ (HB3.out))).mono ?_
  rintro e w4 ⟨⟨v3, rfl, ha⟩, hb⟩
  obtain ⟨f3, b3, c3, e3, _⟩ := id ha
  subst e3
  have HA3 := hide ha
  have HB4 : Hid (Below w0.heap.size w0 w4) := Below.trans (HB3.out) (hb.mono HB3.out.size)
  have HA0 := hide (HA0.out.below hb)
  have HA1 := hide (HA1.out.below hb)
  have HA2 := hide (HA2.out.below hb)
  clear ha hb
  refine ⟨HB4.out, ?_⟩
  refine ord_l (by rfl) (by rfl) (by rfl) ?_
  go_simp
  refine (H4.out _ (HBB.out _ (HB4.out))).mono ?_
  rintro e w5 ⟨⟨v4, rfl, ha⟩, hb⟩
  obtain ⟨f4, b4, c4, e4, _⟩ := id ha
  subst e4
  have HA4 := hide ha
  have HB5 : Hid (Below w0.heap.size w0 w5) := Below.trans (HB4.out) (hb.mono HB4.out.size)
  have HA0 := hide (HA0.out.below hb)
  have HA1 := hide (HA1.out.below hb)
  have HA2 := hide (HA2.out.below hb)
  have HA3 := hide (HA3.out.below hb)
  clear ha hb
  refine ⟨HB5.out, ?_⟩
  refine ord_l (by rfl) (by rfl) (by rfl) ?_
  go_simp
  refine (H6.out _ (HBB.out _ (HB5.out))).mono ?_
  rintro e w6 ⟨⟨v6, rfl, ha⟩, hb⟩
  obtain ⟨f6, b6, c6, e6, _⟩ := id ha
  subst e6
  have HA6 := hide ha
  have HB6 : Hid (Below w0.heap.size w0 w6) := Below.trans (HB5.out) (hb.mono HB5.out.size)
  have HA0 := hide (HA0.out.below hb)
  have HA1 := hide (HA1.out.below hb)
  have HA2 := hide (HA2.out.below hb)
  have HA3 := hide (HA3.out.below hb)
  have HA4 := hide (HA4.out.below hb)
  clear ha hb
  refine ⟨HB6.out, ?_⟩
  refine ord_l (by rfl) (by rfl) (by rfl) ?_
  go_simp
  refine (H7.out _ (HBB.out _ (HB6.out))).mono ?_
  rintro e w7 ⟨⟨v7, rfl, ha⟩, hb⟩
  obtain ⟨f7, b7, c7, e7, _⟩ := id ha
  subst e7
  have HA7 := hide ha
  have HB7 : Hid (Below w0.heap.size w0 w7) := Below.trans (HB6.out) (hb.mono HB6.out.size)
  have HA0 := hide (HA0.out.below hb)
  have HA1 := hide (HA1.out.below hb)
  have HA2 := hide (HA2.out.below hb)
  have HA3 := hide (HA3.out.below hb)
  have HA4 := hide (HA4.out.below hb)
  have HA6 := hide (HA6.out.below hb)
  clear ha hb
  refine ⟨HB7.out, ?_⟩
  refine ord_l (by rfl) (by rfl) (by rfl) ?_
  go_simp
  refine (H8.out _ (HBB.out _ (HB7.out))).mono ?_
  rintro e w8 ⟨⟨v8, rfl, ha⟩, hb⟩
  obtain ⟨f8, b8, c8, e8, _⟩ := id ha
  subst e8
  have HA8 := hide ha
  have HB8 : Hid (Below w0.heap.size w0 w8) := Below.trans (HB7.out) (hb.mono HB7.out.size)
  have HA0 := hide (HA0.out.below hb)
  have HA1 := hide (HA1.out.below hb)
  have HA2 := hide (HA2.out.below hb)
  have HA3 := hide (HA3.out.below hb)
  have HA4 := hide (HA4.out.below hb)
  have HA6 := hide (HA6.out.below hb)
  have HA7 := hide (HA7.out.below hb)
  clear ha hb
  refine ⟨HB8.out, ?_⟩
  have HA5 := hide (H5.out _ (HBB.out _ HB8.out))
  refine ord_l (by rfl) (by rfl) (by rfl) ?_
  refine wp_build9 _ _ _ (by simp [Act.eval]) (run_nine f0 f1 f2 f3 f4 29 f6 f7 f8 b0 c0 b1 c1 b2 c2 b3 c3 b4 c4 #[.agg #[.int .i64 num, .slice ai n ci, .slice al m cl]] #[] b6 c6 b7 c7 b8 c8 w8) ?_
  have hb9 : Below w0.heap.size w0 (w8.alloc (.cells #[.func (.func f0) b0 c0, .func (.func f1) b1 c1, .func (.func f2) b2 c2, .func (.func f3) b3 c3, .func (.func f4) b4 c4, .func (.func 29) #[.agg #[.int .i64 num, .slice ai n ci, .slice al m cl]] #[], .func (.func f6) b6 c6, .func (.func f7) b7 c7, .func (.func f8) b8 c8] 60)) := HB8.out.alloc HB8.out.size _
  have HB9 : Hid (Below w.heap.size w (w8.alloc (.cells #[.func (.func f0) b0 c0, .func (.func f1) b1 c1, .func (.func f2) b2 c2, .func (.func f3) b3 c3, .func (.func f4) b4 c4, .func (.func 29) #[.agg #[.int .i64 num, .slice ai n ci, .slice al m cl]] #[], .func (.func f6) b6 c6, .func (.func f7) b7 c7, .func (.func f8) b8 c8] 60))) := HBB.out _ hb9
  have hup : Below w8.heap.size w8 (w8.alloc (.cells #[.func (.func f0) b0 c0, .func (.func f1) b1 c1, .func (.func f2) b2 c2, .func (.func f3) b3 c3, .func (.func f4) b4 c4, .func (.func 29) #[.agg #[.int .i64 num, .slice ai n ci, .slice al m cl]] #[], .func (.func f6) b6 c6, .func (.func f7) b7 c7, .func (.func f8) b8 c8] 60)) := (Below.refl _ _).alloc (Nat.le_refl _) _
  have HE : Hid (∀ i, i < 9 → ∃ v, (w8.alloc (.cells #[.func (.func f0) b0 c0, .func (.func f1) b1 c1, .func (.func f2) b2 c2, .func (.func f3) b3 c3, .func (.func f4) b4 c4, .func (.func 29) #[.agg #[.int .i64 num, .slice ai n ci, .slice al m cl]] #[], .func (.func f6) b6 c6, .func (.func f7) b7 c7, .func (.func f8) b8 c8] 60)).cell? ⟨w8.heap.size, i, none⟩ = some v ∧ AsksJ (w8.alloc (.cells #[.func (.func f0) b0 c0, .func (.func f1) b1 c1, .func (.func f2) b2 c2, .func (.func f3) b3 c3, .func (.func f4) b4 c4, .func (.func 29) #[.agg #[.int .i64 num, .slice ai n ci, .slice al m cl]] #[], .func (.func f6) b6 c6, .func (.func f7) b7 c7, .func (.func f8) b8 c8] 60)) v m (S i)) := fun i hi => by
    match i, hi with
    | 0, _ => exact ⟨_, by rw [World.cell?_alloc_mark]; rfl, HA0.out.below hup⟩
    | 1, _ => exact ⟨_, by rw [World.cell?_alloc_mark]; rfl, HA1.out.below hup⟩
    | 2, _ => exact ⟨_, by rw [World.cell?_alloc_mark]; rfl, HA2.out.below hup⟩
    | 3, _ => exact ⟨_, by rw [World.cell?_alloc_mark]; rfl, HA3.out.below hup⟩
    | 4, _ => exact ⟨_, by rw [World.cell?_alloc_mark]; rfl, HA4.out.below hup⟩
    | 5, _ => exact ⟨_, by rw [World.cell?_alloc_mark]; rfl, HA5.out.below hup⟩
    | 6, _ => exact ⟨_, by rw [World.cell?_alloc_mark]; rfl, HA6.out.below hup⟩
    | 7, _ => exact ⟨_, by rw [World.cell?_alloc_mark]; rfl, HA7.out.below hup⟩
    | 8, _ => exact ⟨_, by rw [World.cell?_alloc_mark]; rfl, HA8.out.below hup⟩
  refine ⟨hb9, ?_⟩
  clear hup hb9
  refine ord_q (by rfl) (by rfl) (by rfl) (fun w9 h9 => (by go_simp; first | done | rfl)) (by go_simp; first | done | rfl) ?_
  refine ⟨fun _ h => (by cases h), ?_⟩
  go_wp2
  go_ret
  exact ⟨⟨_, _, rfl, HE.out⟩, HB9.out⟩
theorem questions_any (num : Int) (ai : Option Addr) (ci : Nat) (infos : List Inf) (al : Option Addr) (cl : Nat) (all : List Rt) (w : World) (V : QEnv w ai infos al all) :
    Calls Try.prog 18 #[.agg #[.int .i64 num, .slice ai infos.length ci, .slice al all.length cl]] w fun e w' => (∃ g c, e = .returned (.slice (some ⟨g, 0, none⟩) 9 c) ∧ ∀ i, i < 9 → ∃ v, w'.cell? ⟨g, i, none⟩ = some v ∧ AsksJ w' v all.length (stepB i num infos all)) ∧ Below w.heap.size w w' :=
  questions_walk num ai infos.length ci al all.length cl (fun i => stepB i num infos all) w (fun W hb => quest_0 num ai ci infos al cl all W (V.below hb)) (fun W hb => quest_1 num ai ci infos al cl all W (V.below hb)) (fun W hb => quest_2 num ai ci infos al cl all W (V.below hb)) (fun W hb => quest_3 num ai ci infos al cl all W (V.below hb)) (fun W hb => quest_4 num ai ci infos al cl all W (V.below hb)) (fun W hb => quest_6 num ai ci infos al cl all W (V.below hb)) (fun W hb => quest_7 num ai ci infos al cl all W (V.below hb)) (fun W hb => quest_8 num ai ci infos al cl all W (V.below hb)) (fun W hb => quest_5 num ai ci infos al cl all W (V.below hb))
end Go.Proofs.Ytolpaimmmhoiiaa
