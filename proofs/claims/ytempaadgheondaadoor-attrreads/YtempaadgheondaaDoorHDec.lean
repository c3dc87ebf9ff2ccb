/- What is thrown is caught. -/
import Derived.Test.YtempaadgheondaaDoorHFirst
import Derived.Recover
import Derived.Test.YtempaadgheondaaDoorAtQr
namespace Go.Proofs.YtempaadgheondaaDoor
open Go.RowKit
set_option maxRecDepth 100000

set_option maxHeartbeats 800000 in
theorem catch_idle (p q : Addr) (w : World) :
    CallsD Tryd.prog 35 #[.pointer (some p), .pointer (some q)] .returning w fun e u' w' => e = .returned (.tuple #[]) ∧ u' = .returning ∧ w' = w := by
  refine callsD_of_wpS Tryd.func35 rfl fun c₀ cs hu => ?_
  apply wpS_seq
  apply wpS_region
  simp [wpOpsS, go_sem, recoverD, hu, Tryd.ntmps35, Exit.thenS]
  refine wpS_of_wp ?_
  change Code.wp Tryd.prog _ _ { tmps := #[.pointer (some p), .pointer (some q), .nilIface, .nilIface, undef, undef, undef, undef, undef], defers := [] } w
  go_wp2
  cases c₀
  simp_all [bodyPostS, results, Tryd.results35]
theorem assert_wrong (W : World) (v : Value) : (Instr.typeAssert (.iface 60 v) 20 60 false).run Tryd.prog W = .ok v W := by kernel_rfl
set_option maxHeartbeats 1600000 in
theorem catch_throw (X N : Nat) (s : Int) (a : Option Addr) (n c : Nat) (w : World) (hXN : X ≠ N)
    (hx : ∀ j, j < 7 → ∃ v, w.cell? ⟨X, j, none⟩ = some v) (fx : ∀ j, w.frozen? ⟨X, j, none⟩ = false) (hn : ∀ j, j < 3 → ∃ v, w.cell? ⟨N, j, none⟩ = some v) (fn : ∀ j, w.frozen? ⟨N, j, none⟩ = false) :
    CallsD Tryd.prog 35 #[.pointer (some ⟨X, 0, none⟩), .pointer (some ⟨N, 0, none⟩)] (.panicking [{ v := .iface 60 (.agg #[.int .i64 3, .int .i64 s, .slice a n c]), recovered := false }]) w fun e u' w' =>
      e = .returned (.tuple #[]) ∧ u' = .panicking [{ v := .iface 60 (.agg #[.int .i64 3, .int .i64 s, .slice a n c]), recovered := true }] ∧ Keeps (fun b => b = X ∨ b = N) w w' ∧
        (∀ j v, [Value.int .i64 0, .slice none 0 0, .int .u32 0, .int .i64 0, .int .i64 0, .slice none 0 0, .slice none 0 0][j]? = some v → w'.cell? ⟨X, j, none⟩ = some v) ∧ (∀ j v, [Value.int .i64 3, .int .i64 s, .slice a n c][j]? = some v → w'.cell? ⟨N, j, none⟩ = some v) := by
  obtain ⟨x0, hx0⟩ := hx 0 (by omega)
  obtain ⟨x1, hx1⟩ := hx 1 (by omega)
  obtain ⟨x2, hx2⟩ := hx 2 (by omega)
  obtain ⟨x3, hx3⟩ := hx 3 (by omega)
  obtain ⟨x4, hx4⟩ := hx 4 (by omega)
  obtain ⟨x5, hx5⟩ := hx 5 (by omega)
  obtain ⟨x6, hx6⟩ := hx 6 (by omega)
  obtain ⟨n0, hn0⟩ := hn 0 (by omega)
  obtain ⟨n1, hn1⟩ := hn 1 (by omega)
  obtain ⟨n2, hn2⟩ := hn 2 (by omega)
  have fx0 := fx 0
  have fx1 := fx 1
  have fx2 := fx 2
  have fx3 := fx 3
  have fx4 := fx 4
  have fx5 := fx 5
  have fx6 := fx 6
  have fn0 := fn 0
  have fn1 := fn 1
  have fn2 := fn 2
  have hNX : N ≠ X := fun h => hXN h.symm
  have hta := assert_wrong
  clear hx hn fx fn
  refine callsD_of_wpS Tryd.func35 rfl fun c₀ cs hu => ?_
  apply wpS_seq
  apply wpS_region
  simp [wpOpsS, go_sem, recoverD, hu, Tryd.ntmps35, Exit.thenS]
  refine wpS_of_wp ?_
  change Code.wp Tryd.prog _ _ { tmps := #[.pointer (some ⟨X, 0, none⟩), .pointer (some ⟨N, 0, none⟩), .iface 60 (.agg #[.int .i64 3, .int .i64 s, .slice a n c]), .iface 60 (.agg #[.int .i64 3, .int .i64 s, .slice a n c]), undef, undef, undef, undef, undef], defers := [] } w
  go_wp2_with fail
  go_region
  have hk : Keeps (fun b => b = X ∨ b = N) w ((((((((((w.setCell ⟨X, 0, none⟩ (.int .i64 0)).setCell ⟨X, 1, none⟩ (.slice none 0 0)).setCell ⟨X, 2, none⟩ (.int .u32 0)).setCell ⟨X, 3, none⟩ (.int .i64 0)).setCell ⟨X, 4, none⟩ (.int .i64 0)).setCell ⟨X, 5, none⟩ (.slice none 0 0)).setCell ⟨X, 6, none⟩ (.slice none 0 0)).setCell ⟨N, 0, none⟩ (.int .i64 3)).setCell ⟨N, 1, none⟩ (.int .i64 s)).setCell ⟨N, 2, none⟩ (.slice a n c)).drew :=
    (((((((((((Keeps.refl _ w).setCell X 0 _ (.inl (.inl rfl))).setCell X 1 _ (.inl (.inl rfl))).setCell X 2 _ (.inl (.inl rfl))).setCell X 3 _ (.inl (.inl rfl))).setCell X 4 _ (.inl (.inl rfl))).setCell X 5 _ (.inl (.inl rfl))).setCell X 6 _ (.inl (.inl rfl))).setCell N 0 _ (.inl (.inr rfl))).setCell N 1 _ (.inl (.inr rfl))).setCell N 2 _ (.inl (.inr rfl))).drew
  have hcx : ∀ j v, [Value.int .i64 0, .slice none 0 0, .int .u32 0, .int .i64 0, .int .i64 0, .slice none 0 0, .slice none 0 0][j]? = some v → ((((((((((w.setCell ⟨X, 0, none⟩ (.int .i64 0)).setCell ⟨X, 1, none⟩ (.slice none 0 0)).setCell ⟨X, 2, none⟩ (.int .u32 0)).setCell ⟨X, 3, none⟩ (.int .i64 0)).setCell ⟨X, 4, none⟩ (.int .i64 0)).setCell ⟨X, 5, none⟩ (.slice none 0 0)).setCell ⟨X, 6, none⟩ (.slice none 0 0)).setCell ⟨N, 0, none⟩ (.int .i64 3)).setCell ⟨N, 1, none⟩ (.int .i64 s)).setCell ⟨N, 2, none⟩ (.slice a n c)).drew.cell? ⟨X, j, none⟩ = some v := by
    intro j v h
    have hj : j < 7 := by have := (List.getElem?_eq_some_iff.1 h).1; simpa using this
    rcases (by omega : j = 0 ∨ j = 1 ∨ j = 2 ∨ j = 3 ∨ j = 4 ∨ j = 5 ∨ j = 6) with rfl | rfl | rfl | rfl | rfl | rfl | rfl <;> (simp at h; subst h; simp [go_sem, hx0, hx1, hx2, hx3, hx4, hx5, hx6])
  have hcn : ∀ j v, [Value.int .i64 3, .int .i64 s, .slice a n c][j]? = some v → ((((((((((w.setCell ⟨X, 0, none⟩ (.int .i64 0)).setCell ⟨X, 1, none⟩ (.slice none 0 0)).setCell ⟨X, 2, none⟩ (.int .u32 0)).setCell ⟨X, 3, none⟩ (.int .i64 0)).setCell ⟨X, 4, none⟩ (.int .i64 0)).setCell ⟨X, 5, none⟩ (.slice none 0 0)).setCell ⟨X, 6, none⟩ (.slice none 0 0)).setCell ⟨N, 0, none⟩ (.int .i64 3)).setCell ⟨N, 1, none⟩ (.int .i64 s)).setCell ⟨N, 2, none⟩ (.slice a n c)).drew.cell? ⟨N, j, none⟩ = some v := by
    intro j v h
    have hj : j < 3 := by have := (List.getElem?_eq_some_iff.1 h).1; simpa using this
    rcases (by omega : j = 0 ∨ j = 1 ∨ j = 2) with rfl | rfl | rfl <;> (simp at h; subst h; simp [go_sem, hn0, hn1, hn2])
  generalize ((((((((((w.setCell ⟨X, 0, none⟩ (.int .i64 0)).setCell ⟨X, 1, none⟩ (.slice none 0 0)).setCell ⟨X, 2, none⟩ (.int .u32 0)).setCell ⟨X, 3, none⟩ (.int .i64 0)).setCell ⟨X, 4, none⟩ (.int .i64 0)).setCell ⟨X, 5, none⟩ (.slice none 0 0)).setCell ⟨X, 6, none⟩ (.slice none 0 0)).setCell ⟨N, 0, none⟩ (.int .i64 3)).setCell ⟨N, 1, none⟩ (.int .i64 s)).setCell ⟨N, 2, none⟩ (.slice a n c)).drew = W at *
  exact ⟨rfl, _, rfl, _, results_none rfl _ _ _, rfl, rfl, hk, hcx, hcn⟩
end Go.Proofs.YtempaadgheondaaDoor
/- The program's Decode. -/
namespace Go.Proofs.YtempaadgheondaaDoor
open Go.RowKit
set_option maxRecDepth 100000

/-- What Decode answers. -/
def DecA (w w' : World) (r : Res) (e : Ending) : Prop :=
  match r with
  | .inl n => ∃ a9 c9, e = .returned (.tuple #[.agg #[.int .i64 0, .slice none 0 0, .int .u32 0, .int .i64 0, .int .i64 0, .slice none 0 0, .slice none 0 0], .agg #[.int .i64 3, .int .i64 (n.2.1 : Int), .slice a9 n.2.2.length c9]]) ∧ w'.ownsRow w.heap.size 5 1 (.slice a9 n.2.2.length c9) n.2.2.length (bcells n.2.2)
  | .inr b => ∃ p1 k1 p5 k5 p6 k6, e = .returned (.tuple #[atV p1 k1 p5 k5 p6 k6 b, .agg #[.int .i64 0, .int .i64 0, .slice none 0 0]]) ∧ OwnPath w' w.heap.size (.slice p1 b.path.length k1) b.path ∧ w'.ownsRow w.heap.size 23 1 (.slice p5 b.comms.length k5) b.comms.length (ucells b.comms) ∧ OwnRaws w' w.heap.size (.slice p6 b.raws.length k6) b.raws
/-- The note's box, empty yet. -/
structure NBox (w : World) (N : Nat) : Prop where
  c0 : w.cell? ⟨N, 0, none⟩ = some (.int .i64 0)
  c1 : w.cell? ⟨N, 1, none⟩ = some (.int .i64 0)
  c2 : w.cell? ⟨N, 2, none⟩ = some (.slice none 0 0)
  fz : ∀ j, w.frozen? ⟨N, j, none⟩ = false
theorem NBox.keeps {F : Nat → Prop} {w w' : World} {N : Nat} (h : NBox w N) (hk : Keeps F w w') (hF : ¬ F N) : NBox w' N := by
  have hN := World.block_lt_of_cell? w _ h.c0
  simp only at hN
  exact ⟨by rw [hk.cell ⟨N, 0, none⟩ hN hF]; exact h.c0, by rw [hk.cell ⟨N, 1, none⟩ hN hF]; exact h.c1, by rw [hk.cell ⟨N, 2, none⟩ hN hF]; exact h.c2, fun j => by rw [World.frozen?_of_block (w := w) (hk.block N hN hF)]; exact h.fz j⟩
/-- Where Decode stands: what is left, what was read. -/
structure DecSt (bs : List Nat) (w wq : World) (rem : List Nat) (a' : Option Addr) (x b : At) (seen : List Nat) : Prop where
  rd : BRd wq a' rem
  low : ∀ ad, a' = some ad → 0 < rem.length → ad.block < w.heap.size
  cnt : rem.length + 3 * seen.length ≤ bs.length
  box : Box wq w.heap.size (w.heap.size + 3) x
  note : NBox wq (w.heap.size + 1)
  stood : Stood wq (w.heap.size + 1 + 1) seen
  rel : Rel x b seen
  run : readA bs = runA rem b seen
  bel : Below w.heap.size w wq
  sz : w.heap.size + 3 ≤ wq.heap.size
theorem dec_start (a : Option Addr) (bs : List Nat) (w : World) (h : BRd w a bs) : DecSt bs w (((w.alloc (.cells #[.int .i64 0, .slice none 0 0, .int .u32 0, .int .i64 (-1), .int .i64 (-1), .slice none 0 0, .slice none 0 0] 27)).alloc (.cells #[.int .i64 0, .int .i64 0, .slice none 0 0] 34)).alloc (.cells (Array.replicate 256 (.bool false)) 61)) bs a ⟨0, [], 0, -1, -1, [], []⟩ ⟨0, [], 0, -1, -1, [], []⟩ [] := by
  have hb : Below w.heap.size w (((w.alloc (.cells #[.int .i64 0, .slice none 0 0, .int .u32 0, .int .i64 (-1), .int .i64 (-1), .slice none 0 0, .slice none 0 0] 27)).alloc (.cells #[.int .i64 0, .int .i64 0, .slice none 0 0] 34)).alloc (.cells (Array.replicate 256 (.bool false)) 61)) := (((Below.refl _ _).alloc (Nat.le_refl _) _).alloc (by simp) _).alloc (by simp; omega) _
  have c : ∀ (j : Nat) (v : Value), #[Value.int .i64 0, .slice none 0 0, .int .u32 0, .int .i64 (-1), .int .i64 (-1), .slice none 0 0, .slice none 0 0][j]? = some v → (((w.alloc (.cells #[.int .i64 0, .slice none 0 0, .int .u32 0, .int .i64 (-1), .int .i64 (-1), .slice none 0 0, .slice none 0 0] 27)).alloc (.cells #[.int .i64 0, .int .i64 0, .slice none 0 0] 34)).alloc (.cells (Array.replicate 256 (.bool false)) 61)).cell? ⟨w.heap.size, j, none⟩ = some v := fun j v hj => by
    rw [World.cell?_alloc_old _ _ _ (by simp; omega), World.cell?_alloc_old _ _ _ (by simp), World.cell?_alloc_mark]
    exact hj
  refine ⟨h.below hb, fun ad he hp => h.1.lt ad he hp, by simp, ⟨c 0 _ rfl, ⟨none, 0, c 1 _ rfl, OwnPath.nil _ _⟩, c 2 _ rfl, c 3 _ rfl, c 4 _ rfl, ⟨none, 0, c 5 _ rfl, own_nil _ _ _ _⟩, ⟨none, 0, c 6 _ rfl, OwnRaws.nil _ _⟩, fun j => by simp [go_sem], by omega⟩, ⟨by simp [go_sem], by simp [go_sem], by simp [go_sem], fun j => by simp [go_sem]⟩, ?_, ⟨rfl, List.Perm.refl _, List.Pairwise.nil, fun r hr => by simp at hr, fun _ => rfl, Nat.le_refl _⟩, rfl, hb, by simp⟩
  have := stood_new ((w.alloc (.cells #[.int .i64 0, .slice none 0 0, .int .u32 0, .int .i64 (-1), .int .i64 (-1), .slice none 0 0, .slice none 0 0] 27)).alloc (.cells #[.int .i64 0, .int .i64 0, .slice none 0 0] 34))
  simpa using this
theorem box_cells {w : World} {X B : Nat} {a : At} (h : Box w X B a) : ∀ j, j < 7 → ∃ v, w.cell? ⟨X, j, none⟩ = some v := fun j hj => by
  obtain ⟨p1, k1, q1, _⟩ := h.c1
  obtain ⟨p5, k5, q5, _⟩ := h.c5
  obtain ⟨p6, k6, q6, _⟩ := h.c6
  rcases (by omega : j = 0 ∨ j = 1 ∨ j = 2 ∨ j = 3 ∨ j = 4 ∨ j = 5 ∨ j = 6) with rfl | rfl | rfl | rfl | rfl | rfl | rfl
  · exact ⟨_, h.c0⟩
  · exact ⟨_, q1⟩
  · exact ⟨_, h.c2⟩
  · exact ⟨_, h.c3⟩
  · exact ⟨_, h.c4⟩
  · exact ⟨_, q5⟩
  · exact ⟨_, q6⟩
theorem nbox_cells {w : World} {N : Nat} (h : NBox w N) : ∀ j, j < 3 → ∃ v, w.cell? ⟨N, j, none⟩ = some v := fun j hj => by
  rcases (by omega : j = 0 ∨ j = 1 ∨ j = 2) with rfl | rfl | rfl
  · exact ⟨_, h.c0⟩
  · exact ⟨_, h.c1⟩
  · exact ⟨_, h.c2⟩
set_option maxHeartbeats 1600000 in
/-- What is thrown within Decode is what it answers. -/
theorem dec_throw {bs : List Nat} {w w2 : World} {T : Array Value} {x : At} {s : Nat} {d : List Nat} {a9 : Option Addr} {c9 n : Nat} (h2 : T[2]? = some (.pointer (some ⟨w.heap.size, 0, none⟩))) (h3 : T[3]? = some (.pointer (some ⟨w.heap.size + 1, 0, none⟩)))
    (hn : d.length = n) (ho : w2.ownsRow (w.heap.size + 3) 5 1 (.slice a9 n c9) n (bcells d)) (hx : Box w2 w.heap.size (w.heap.size + 3) x) (hnb : NBox w2 (w.heap.size + 1)) (hb : Below w.heap.size w w2) (hr : readA bs = .inl (3, s, d)) :
    bodyPostD Tryd.prog Tryd.f16 (fun e w' => DecA w w' (readA bs) e ∧ Below w.heap.size w w') (.panic [{ v := .iface 60 (.agg #[.int .i64 3, .int .i64 (s : Int), .slice a9 n c9]), recovered := false }]) { tmps := T, defers := [{ target := .fn (.func 35) #[.pointer (some ⟨w.heap.size, 0, none⟩), .pointer (some ⟨w.heap.size + 1, 0, none⟩)], args := #[] }] } w2 := by
  refine leaves_cons (f := 35) (args := #[.pointer (some ⟨w.heap.size, 0, none⟩), .pointer (some ⟨w.heap.size + 1, 0, none⟩)]) (by simp) (by simp [go_sem]) ?_
  refine (catch_throw w.heap.size (w.heap.size + 1) (s : Int) a9 n c9 w2 (by omega) (box_cells hx) hx.fz (nbox_cells hnb) hnb.fz).mono ?_
  rintro e u' w3 ⟨rfl, rfl, hk, hcx, hcn⟩
  have q0 := hcx 0 _ rfl
  have q1 := hcx 1 _ rfl
  have q2 := hcx 2 _ rfl
  have q3 := hcx 3 _ rfl
  have q4 := hcx 4 _ rfl
  have q5 := hcx 5 _ rfl
  have q6 := hcx 6 _ rfl
  have m0 := hcn 0 _ rfl
  have m1 := hcn 1 _ rfl
  have m2 := hcn 2 _ rfl
  have ho3 : w3.ownsRow w.heap.size 5 1 (.slice a9 n c9) n (bcells d) := own_base (own_keeps ho hk (fun k h9 => by rcases h9 with h9 | h9 <;> omega)) (by omega)
  have hb3 : Below w.heap.size w w3 := ⟨hk.os.trans hb.os, hk.tape.trans hb.tape, hk.output.trans hb.output, Nat.le_trans hb.size hk.size, fun k hk9 => by rw [hk.block k (Nat.lt_of_lt_of_le hk9 hb.size) (fun h9 => by rcases h9 with h9 | h9 <;> omega)]; exact hb.block k hk9⟩
  subst hn
  have HZ : Hid (DecA w w3 (readA bs) (.returned (.tuple #[.agg #[.int .i64 0, .slice none 0 0, .int .u32 0, .int .i64 0, .int .i64 0, .slice none 0 0, .slice none 0 0], .agg #[.int .i64 3, .int .i64 (s : Int), .slice a9 d.length c9]])) ∧ Below w.heap.size w w3) := ⟨by rw [hr]; exact ⟨a9, c9, rfl, ho3⟩, hb3⟩
  simp [Leaves, settle, results, Tryd.results16, go_sem, h2, h3, q0, q1, q2, q3, q4, q5, q6, m0, m1, m2]
  exact HZ.out
set_option maxHeartbeats 1600000 in
/-- What was read is what Decode answers. -/
theorem dec_return {bs : List Nat} {w w2 : World} {T : Array Value} {b : At} {p1 : Option Addr} {k1 : Nat} {p5 : Option Addr} {k5 : Nat} {p6 : Option Addr} {k6 n1 n5 n6 : Nat} (h2 : T[2]? = some (.pointer (some ⟨w.heap.size, 0, none⟩))) (h3 : T[3]? = some (.pointer (some ⟨w.heap.size + 1, 0, none⟩)))
    (q0 : w2.cell? ⟨w.heap.size, 0, none⟩ = some (.int .i64 b.origin)) (q1 : w2.cell? ⟨w.heap.size, 1, none⟩ = some (.slice p1 n1 k1)) (q2 : w2.cell? ⟨w.heap.size, 2, none⟩ = some (.int .u32 (b.next : Int))) (q3 : w2.cell? ⟨w.heap.size, 3, none⟩ = some (.int .i64 b.med)) (q4 : w2.cell? ⟨w.heap.size, 4, none⟩ = some (.int .i64 b.pref)) (q5 : w2.cell? ⟨w.heap.size, 5, none⟩ = some (.slice p5 n5 k5)) (q6 : w2.cell? ⟨w.heap.size, 6, none⟩ = some (.slice p6 n6 k6))
    (m0 : w2.cell? ⟨w.heap.size + 1, 0, none⟩ = some (.int .i64 0)) (m1 : w2.cell? ⟨w.heap.size + 1, 1, none⟩ = some (.int .i64 0)) (m2 : w2.cell? ⟨w.heap.size + 1, 2, none⟩ = some (.slice none 0 0))
    (hz : DecA w w2 (readA bs) (.returned (.tuple #[.agg #[.int .i64 b.origin, .slice p1 n1 k1, .int .u32 (b.next : Int), .int .i64 b.med, .int .i64 b.pref, .slice p5 n5 k5, .slice p6 n6 k6], .agg #[.int .i64 0, .int .i64 0, .slice none 0 0]]))) (hb : Below w.heap.size w w2) :
    bodyPostD Tryd.prog Tryd.f16 (fun e w' => DecA w w' (readA bs) e ∧ Below w.heap.size w w') .ret { tmps := T, defers := [{ target := .fn (.func 35) #[.pointer (some ⟨w.heap.size, 0, none⟩), .pointer (some ⟨w.heap.size + 1, 0, none⟩)], args := #[] }] } w2 := by
  refine leaves_cons (f := 35) (args := #[.pointer (some ⟨w.heap.size, 0, none⟩), .pointer (some ⟨w.heap.size + 1, 0, none⟩)]) (by simp) (by simp [go_sem]) ?_
  refine (catch_idle ⟨w.heap.size, 0, none⟩ ⟨w.heap.size + 1, 0, none⟩ w2).mono ?_
  rintro e u' w3 ⟨rfl, rfl, rfl⟩
  have HZ : Hid (DecA w w3 (readA bs) (.returned (.tuple #[.agg #[.int .i64 b.origin, .slice p1 n1 k1, .int .u32 (b.next : Int), .int .i64 b.med, .int .i64 b.pref, .slice p5 n5 k5, .slice p6 n6 k6], .agg #[.int .i64 0, .int .i64 0, .slice none 0 0]])) ∧ Below w.heap.size w w3) := ⟨hz, hb⟩
  clear hz hb
  simp [Leaves, settle, results, Tryd.results16, go_sem, h2, h3, q0, q1, q2, q3, q4, q5, q6, m0, m1, m2]
  exact HZ.out
theorem DecSt.later {bs : List Nat} {w wq wq' : World} {rem : List Nat} {a' : Option Addr} {x b : At} {seen : List Nat} (h : DecSt bs w wq rem a' x b seen) (hb : Below wq.heap.size wq wq') : DecSt bs w wq' rem a' x b seen :=
  ⟨h.rd.below hb, h.low, h.cnt, h.box.later hb, h.note.keeps (Keeps.of_below hb (fun _ => False)) id, h.stood.keeps (Keeps.of_below hb (fun _ => False)) id, h.rel, h.run, h.bel.trans (hb.mono h.bel.size), Nat.le_trans h.sz hb.size⟩
theorem applyQ_three {a : At} {fl ty : Nat} {d all : List Nat} {n : Nat × Nat × List Nat} (h : applyQ a fl ty d all = .inl n) : n.1 = 3 := by
  unfold applyQ at h
  repeat (first | (split at h) | (cases h; rfl) | (cases h))
theorem fitsL_eq (bs seen : List Nat) : fitsL bs seen = decide (headL (bs.getD 0 0) ≤ bs.length ∧ headL (bs.getD 0 0) + sizeL bs ≤ bs.length ∧ bs.getD 1 0 ∉ seen) := rfl
/-- Is it in the same block? -/
def InBlk (a ad : Option Addr) : Prop := ∀ y, ad = some y → ∃ z, a = some z ∧ y.block = z.block
/-- What first answers of bytes that an attribute stands first in, and where that lies. -/
def FirstIn (a : Option Addr) (w w' : World) (bs : List Nat) (e : Ending) : Prop :=
  ∃ a1 k1 a2 k2 a3 k3, e = .returned (.tuple #[.agg #[.int .i64 (bs.getD 0 0 : Int), .int .i64 (bs.getD 1 0 : Int), .slice a1 (sizeL bs) k1, .slice a2 (headL (bs.getD 0 0) + sizeL bs) k2], .slice a3 (bs.length - (headL (bs.getD 0 0) + sizeL bs)) k3]) ∧ BRd w a1 ((bs.drop (headL (bs.getD 0 0))).take (sizeL bs)) ∧ sizeL bs ≤ k1 ∧ BRd w a2 (bs.take (headL (bs.getD 0 0) + sizeL bs)) ∧ BRd w a3 (bs.drop (headL (bs.getD 0 0) + sizeL bs)) ∧ bs.length - (headL (bs.getD 0 0) + sizeL bs) ≤ k3 ∧ (0 < sizeL bs → InBlk a a1) ∧ InBlk a a2 ∧ (headL (bs.getD 0 0) + sizeL bs < bs.length → InBlk a a3) ∧ Below w.heap.size w w'
theorem first_in (a : Option Addr) (c : Nat) (bs : List Nat) (w : World) (hp : 0 < bs.length) (hl : bs.length ≤ 20000) (hc : bs.length ≤ c) (h : BRd w a bs) (hfit : headL (bs.getD 0 0) + sizeL bs ≤ bs.length) :
    Calls Tryd.prog 36 #[.slice a bs.length c] w fun e w' => FirstIn a w w' bs e := by
  obtain ⟨b, o, rfl, hcell, hlt⟩ := h.cells hp
  have inb : ∀ (off : Nat) (ad : Option Addr), ad = some ⟨b, off, none⟩ → InBlk (some ⟨b, o, none⟩) ad := fun off ad e y hy => ⟨_, rfl, by rw [e] at hy; cases hy; rfl⟩
  by_cases hx : bs.getD 0 0 / 16 % 2 = 1
  · have e1 : headL (bs.getD 0 0) = 4 := by unfold headL; rw [if_pos hx]
    have e2 : sizeL bs = 256 * bs.getD 2 0 + bs.getD 3 0 := by unfold sizeL; rw [if_pos hx]
    rw [e1] at hfit
    refine (first4 b o bs.length c _ _ _ _ (sizeL bs) w hc hl (hlt 0) (hlt 1) (hlt 2) (hlt 3) e2.symm hx hfit (hcell 0 hp) (hcell 1 (by omega)) (hcell 2 (by omega)) (hcell 3 (by omega))).mono ?_
    rintro e w' ⟨a1, k1, a3, k3, he, q1, q2, q3, q4, hb⟩
    unfold FirstIn
    rw [e1]
    exact ⟨a1, k1, _, c, a3, k3, he, h.piece 4 _ hfit a1 q1, q2, h.ahead _ hfit, h.behind _ hfit a3 q3, q4, fun h9 => inb _ _ (q1 h9), inb _ _ rfl, fun h9 => inb _ _ (q3 h9), hb⟩
  · have e1 : headL (bs.getD 0 0) = 3 := by unfold headL; rw [if_neg hx]
    have e2 : sizeL bs = bs.getD 2 0 := by unfold sizeL; rw [if_neg hx]
    rw [e1] at hfit
    refine (first3 b o bs.length c _ _ (sizeL bs) w hc hl (hlt 0) (hlt 1) (by rw [e2]; exact hlt 2) (by omega) hfit (hcell 0 hp) (hcell 1 (by omega)) (by rw [e2]; exact hcell 2 (by omega))).mono ?_
    rintro e w' ⟨a1, k1, a3, k3, he, q1, q2, q3, q4, hb⟩
    unfold FirstIn
    rw [e1]
    exact ⟨a1, k1, _, c, a3, k3, he, h.piece 3 _ hfit a1 q1, q2, h.ahead _ hfit, h.behind _ hfit a3 q3, q4, fun h9 => inb _ _ (q1 h9), inb _ _ rfl, fun h9 => inb _ _ (q3 h9), hb⟩
/-- Bytes that lie below X, behind what leaves all below X alone. -/
theorem brd_low {w w' : World} {X : Nat} {a : Option Addr} {d : List Nat} (h : BRd w a d) (hlow : ∀ y, a = some y → 0 < d.length → y.block < X) (hsame : ∀ k, k < X → w'.heap[k]? = w.heap[k]?) : BRd w' a d := by
  refine ⟨⟨h.1.1, fun hp => ?_⟩, h.2⟩
  obtain ⟨b, o, e, hc⟩ := h.1.2 hp
  refine ⟨b, o, e, fun i hi => ?_⟩
  rw [World.cell?_of_block (w := w) (hsame b (hlow _ e hp))]
  exact hc i hi
/-- Another block is written. -/
theorem box_above {w : World} {X B Y : Nat} {a : At} (h : Box w X B a) (hY : X < Y ∧ Y < B) (j : Nat) (v : Value) : Box (w.setCell ⟨Y, j, none⟩ v) X B a := by
  have e : ∀ k, (w.setCell ⟨Y, j, none⟩ v).cell? ⟨X, k, none⟩ = w.cell? ⟨X, k, none⟩ := fun k => World.cell?_setCell_other _ _ _ _ (by intro e9; injection e9 with e2 _ _; omega)
  obtain ⟨p1, k1, g1, o1⟩ := h.c1
  obtain ⟨p5, k5, g5, o5⟩ := h.c5
  obtain ⟨p6, k6, g6, o6⟩ := h.c6
  exact ⟨by rw [e]; exact h.c0, ⟨p1, k1, by rw [e]; exact g1, o1.under hY.2 _ _⟩, by rw [e]; exact h.c2, by rw [e]; exact h.c3, by rw [e]; exact h.c4, ⟨p5, k5, by rw [e]; exact g5, own_under o5 hY.2 _ _⟩, ⟨p6, k6, by rw [e]; exact g6, o6.under hY.2 _ _⟩, fun k => by rw [World.frozen?_setCell]; exact h.fz k, h.lt⟩
theorem below_box {w w4 w5 : World} (h : Below w.heap.size w w4) (hk : Keeps (NotBox w.heap.size (w.heap.size + 3)) w4 w5) (hs : w.heap.size + 3 ≤ w4.heap.size) : Below w.heap.size w w5 :=
  ⟨hk.os.trans h.os, hk.tape.trans h.tape, hk.output.trans h.output, Nat.le_trans h.size hk.size, fun k hk9 => by rw [hk.block k (by omega) (by unfold NotBox; omega)]; exact h.block k hk9⟩
end Go.Proofs.YtempaadgheondaaDoor
