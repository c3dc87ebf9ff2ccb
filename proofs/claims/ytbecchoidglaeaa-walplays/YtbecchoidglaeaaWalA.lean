/- The program's Append. -/
import Derived.Test.YtbecchoidglaeaaGWalS
import Derived.Deep.RegionHeld3
namespace Go.Proofs.Ytbecchoidglaeaa
open Go.RowKit
set_option maxRecDepth 100000

/-- What Append answers. -/
def PAppRes (w w' : World) (B D : Nat) (g : Lg) (s : St) (F : Nat → Prop) (f : Nat → Nat) (len : Nat) (r : Ending) : Prop :=
  r = .returned (.int .i64 ((g.append s f len).2 : Int)) ∧ ∃ F', PLog w' B D (g.append s f len).1.2 (g.append s f len).1.1 F' ∧ PStep B F F' w w'
set_option maxHeartbeats 400000 in
theorem append_nil (w : World) (a : Option Addr) (len cap : Nat) : Calls Try.prog 15 #[.pointer none, .slice a len cap] w fun r w' => r = .returned (.int .i64 1) ∧ w' = w := by
  go_enter Try.func15, Try.ntmps15
  go_wp2_with fail
  refine (isNone_nil _).mono ?_
  rintro e w1 ⟨rfl, rfl⟩
  go_wp2
  go_ret
  exact ⟨rfl, rfl⟩
set_option maxHeartbeats 400000 in
theorem pappend_down {w : World} {B D : Nat} {g : Lg} {s : St} {F : Nat → Prop} (h : PLog w B D g s F) (hd : g.down = true) (a : Option Addr) (len cap : Nat) (f : Nat → Nat) :
    Calls Try.prog 15 #[.pointer (some ⟨B, 0, none⟩), .slice a len cap] w fun r w' => PAppRes w w' B D g s F f len r := by
  have c3 := h.l.c3
  rw [hd] at c3
  have H := hide h
  have HD := hide hd
  clear h hd
  go_enter Try.func15, Try.ntmps15
  go_wp2_with fail
  refine (isNone_in H.out.l).mono ?_
  rintro e w1 ⟨rfl, rfl⟩
  go_wp2
  go_ret
  unfold PAppRes
  rw [append_down HD.out]
  exact ⟨rfl, F, H.out, PStep.refl _ _ _⟩
theorem papp_same {w : World} {B D : Nat} {g : Lg} {s : St} {F : Nat → Prop} (h : PLog w B D g s F) (hd : g.down = false) : PLog (w.setCell ⟨B, 3, none⟩ (.bool false)) B D g s F := by
  have hl := h.l.setDown false
  rw [lg_same g hd] at hl
  exact h.store hl ((Keeps.refl _ _).setCell B 3 _ (.inl rfl))
theorem papp_step {w wq : World} {B : Nat} {F : Nat → Prop} {v : Value} {i : Nat} (h : Below w.heap.size w wq) : PStep B F F w (wq.setCell ⟨B, i, none⟩ v) :=
  (Step.log (Step.of_below h)).trans (PStep.own ((Keeps.refl _ _).setCell B i _ (.inl rfl)))
set_option maxHeartbeats 3200000 in
theorem pappend_arg {w : World} {B D : Nat} {g : Lg} {s : St} {F : Nat → Prop} (h : PLog w B D g s F) (hd : g.down = false) (hn : 4 ≤ s.n) (hs : s.n ≤ 1024) (a : Option Addr) (len cap : Nat) (f : Nat → Nat) (hl : 8192 < len) :
    Calls Try.prog 15 #[.pointer (some ⟨B, 0, none⟩), .slice a len cap] w fun r w' => PAppRes w w' B D g s F f len r := by
  have c0 := h.l.c0
  have c1 := h.l.c1
  have c2 := h.l.c2
  have c3 := h.l.c3
  rw [hd] at c3
  have H := hide h
  have HD := hide hd
  have HL := hide hl
  clear h hd hl
  go_enter Try.func15, Try.ntmps15
  go_wp2_with fail
  refine (isNone_in H.out.l).mono ?_
  rintro e w ⟨rfl, hw1⟩
  subst hw1
  go_wp2_with fail
  go_quiet ((go_at_call 34; refine Calls.quiet_of_same (rof_any (H.out.d.later (below_drewN (Below.refl _ _) _)) g.gen hn hs)))
  go_wp2_with fail
  go_region_held3 (fun w' => w'.cell? ⟨B, 0, none⟩ = some (.pointer (some ⟨D, 0, none⟩)) ∧ w'.cell? ⟨B, 1, none⟩ = some (.int .i64 (g.gen : Int)) ∧ w'.cell? ⟨B, 2, none⟩ = some (.int .i64 (g.at_ : Int)))
    (first
      | (go_split_ands
         refine ⟨?_, ?_, ?_⟩ <;> (first | assumption | (simp only [cell_drewN]; assumption) | (simp only [World.cell?_drew, cell_drewN]; assumption))))
    (first
      | (go_split_ands; go_at_call 47; refine (lay_arg _ D _ _ _ a len cap (.inl HL.out)).mono ?_; rintro e wA ⟨rfl, hwA⟩; have bA : Hid (Below w.heap.size w wA) := (by show Below w.heap.size w wA; rw [hwA]; first | exact below_drewN (Below.refl _ _) _ | exact below_drew1 (below_drewN (Below.refl _ _) _)); clear hwA; have qA : Hid (PLog wA B D g s F) := H.out.later bA.out; have q0 := qA.out.l.c0; have q1 := qA.out.l.c1; have q2 := qA.out.l.c2; have q3 := qA.out.l.c3; rw [HD.out] at q3; have qf := qA.out.l.fz 3))
  all_goals go_wp2_with fail
  all_goals (refine (failed_in qA.out.l 1).mono ?_; rintro e wB ⟨rfl, rfl⟩)
  all_goals go_wp2
  all_goals go_ret
  all_goals unfold PAppRes
  all_goals rw [append_arg HD.out HL.out]
  all_goals exact ⟨rfl, F, papp_same qA.out HD.out, papp_step bA.out⟩
set_option maxHeartbeats 3200000 in
theorem pappend_full {w : World} {B D : Nat} {g : Lg} {s : St} {F : Nat → Prop} (h : PLog w B D g s F) (hd : g.down = false) (hn : 4 ≤ s.n) (hs : s.n ≤ 1024) (hgen : g.gen ≤ 2147483647) (a : Option Addr) (len cap : Nat) (f : Nat → Nat) (hl : ¬ 8192 < len) (hfit : fit s.n g.at_ (toOf s.n g.gen : Int) len = false) :
    Calls Try.prog 15 #[.pointer (some ⟨B, 0, none⟩), .slice a len cap] w fun r w' => PAppRes w w' B D g s F f len r := by
  have c0 := h.l.c0
  have c1 := h.l.c1
  have c2 := h.l.c2
  have c3 := h.l.c3
  rw [hd] at c3
  have H := hide h
  have HD := hide hd
  have HL := hide hl
  have HFT := hide hfit
  have HG := hide hgen
  clear h hd hl hfit hgen
  go_enter Try.func15, Try.ntmps15
  go_wp2_with fail
  refine (isNone_in H.out.l).mono ?_
  rintro e w ⟨rfl, hw1⟩
  subst hw1
  go_wp2_with fail
  go_quiet ((go_at_call 34; refine Calls.quiet_of_same (rof_any (H.out.d.later (below_drewN (Below.refl _ _) _)) g.gen hn hs)))
  go_wp2_with fail
  go_region_held3 (fun w' => w'.cell? ⟨B, 0, none⟩ = some (.pointer (some ⟨D, 0, none⟩)) ∧ w'.cell? ⟨B, 1, none⟩ = some (.int .i64 (g.gen : Int)) ∧ w'.cell? ⟨B, 2, none⟩ = some (.int .i64 (g.at_ : Int)))
    (first
      | (go_split_ands
         refine ⟨?_, ?_, ?_⟩ <;> (first | assumption | (simp only [cell_drewN]; assumption) | (simp only [World.cell?_drew, cell_drewN]; assumption))))
    (first
      | (go_split_ands; go_at_call 47; refine (lay_full (H.out.d.later (by first | exact below_drewN (Below.refl _ _) _ | exact below_drew1 (below_drewN (Below.refl _ _) _))) g.at_ g.gen (toOf s.n g.gen : Int) a len cap HG.out (by have := HL.out; omega) hs HFT.out).mono ?_; rintro e wA ⟨rfl, hwA⟩; have bA : Hid (Below w.heap.size w wA) := (by show Below w.heap.size w wA; rw [hwA]; first | exact below_drewN (Below.refl _ _) _ | exact below_drew1 (below_drewN (Below.refl _ _) _)); clear hwA; have qA : Hid (PLog wA B D g s F) := H.out.later bA.out; have q0 := qA.out.l.c0; have q1 := qA.out.l.c1; have q2 := qA.out.l.c2; have q3 := qA.out.l.c3; rw [HD.out] at q3; have qf := qA.out.l.fz 3))
  all_goals go_wp2_with fail
  all_goals (refine (failed_in qA.out.l 3).mono ?_; rintro e wB ⟨rfl, rfl⟩)
  all_goals go_wp2
  all_goals go_ret
  all_goals unfold PAppRes
  all_goals rw [append_full HD.out HL.out HFT.out]
  all_goals exact ⟨rfl, F, papp_same qA.out HD.out, papp_step bA.out⟩
theorem lay_ok {w : World} {D : Nat} {s : St} {F : Nat → Prop} (h : Disk w D s F) (at_ gen : Nat) (e : Int) (a : Option Addr) (len cap : Nat) (f : Nat → Nat) (hg : gen ≤ 2147483647) (hl : len ≤ 8192) (hcap : len ≤ cap)
    (hr : Rw w a len f) (hf : ∀ i, i < len → f i < 256) (ha : ∀ x, a = some x → 0 < len → ¬ F x.block) (hn : s.n ≤ 1024) (hlo : s.lo.length < 800000) (hroom : fit s.n at_ e len = true) (h0 : (s.lay at_ (ent gen f len) (cnt len)).2 = 0) :
    Calls Try.prog 47 #[.pointer (some ⟨D, 0, none⟩), .int .i64 (at_ : Int), .int .i64 e, .int .i64 (gen : Int), .slice a len cap] w fun r w' =>
      r = .returned (.tuple #[.int .i64 ((at_ : Int) + (cnt len : Int)), .int .i64 0]) ∧ ∃ F', Disk w' D (s.lay at_ (ent gen f len) (cnt len)).1 F' ∧ Step F F' w w' := by
  have := lay_in h at_ gen e a len cap f hg hl hcap hr hf ha hn hlo hroom
  rw [layNext_good h0, h0] at this
  exact this
theorem lay_no {w : World} {D : Nat} {s : St} {F : Nat → Prop} (h : Disk w D s F) (at_ gen : Nat) (e : Int) (a : Option Addr) (len cap : Nat) (f : Nat → Nat) (hg : gen ≤ 2147483647) (hl : len ≤ 8192) (hcap : len ≤ cap)
    (hr : Rw w a len f) (hf : ∀ i, i < len → f i < 256) (ha : ∀ x, a = some x → 0 < len → ¬ F x.block) (hn : s.n ≤ 1024) (hlo : s.lo.length < 800000) (hroom : fit s.n at_ e len = true) (h0 : (s.lay at_ (ent gen f len) (cnt len)).2 = 4) :
    Calls Try.prog 47 #[.pointer (some ⟨D, 0, none⟩), .int .i64 (at_ : Int), .int .i64 e, .int .i64 (gen : Int), .slice a len cap] w fun r w' =>
      r = .returned (.tuple #[.int .i64 0, .int .i64 4]) ∧ ∃ F', Disk w' D (s.lay at_ (ent gen f len) (cnt len)).1 F' ∧ Step F F' w w' := by
  have := lay_in h at_ gen e a len cap f hg hl hcap hr hf ha hn hlo hroom
  rw [layNext_bad h0, h0] at this
  exact this
theorem papp_at {w : World} {B D : Nat} {g : Lg} {s : St} {F : Nat → Prop} (h : PLog w B D g s F) (a : Nat) {z : Int} (hz : z = (a : Int)) : PLog (w.setCell ⟨B, 2, none⟩ (.int .i64 z)) B D { g with at_ := a } s F := by
  subst hz
  exact h.store (h.l.setAt a) ((Keeps.refl (fun b => b = B) _).setCell B 2 _ (.inl rfl))
theorem papp_dead {w : World} {B D : Nat} {g : Lg} {s : St} {F : Nat → Prop} (h : PLog w B D g s F) : PLog (w.setCell ⟨B, 3, none⟩ (.bool true)) B D { g with down := true } s F :=
  h.store (h.l.setDown true) ((Keeps.refl _ _).setCell B 3 _ (.inl rfl))
set_option maxHeartbeats 3200000 in
theorem pappend_ok {w : World} {B D : Nat} {g : Lg} {s : St} {F : Nat → Prop} (h : PLog w B D g s F) (hd : g.down = false) (hn : 4 ≤ s.n) (hs : s.n ≤ 1024) (hlo : s.lo.length < 800000) (hgen : g.gen ≤ 2147483647) (a : Option Addr) (len cap : Nat) (f : Nat → Nat) (hl : ¬ 8192 < len) (hcap : len ≤ cap)
    (hr : Rw w a len f) (hf : ∀ i, i < len → f i < 256) (ha : ∀ x, a = some x → 0 < len → ¬ F x.block) (hfit : fit s.n g.at_ (toOf s.n g.gen : Int) len = true) (h0 : (s.lay g.at_ (ent g.gen f len) (cnt len)).2 = 0) :
    Calls Try.prog 15 #[.pointer (some ⟨B, 0, none⟩), .slice a len cap] w fun r w' => PAppRes w w' B D g s F f len r := by
  have c0 := h.l.c0
  have c1 := h.l.c1
  have c2 := h.l.c2
  have c3 := h.l.c3
  rw [hd] at c3
  have H := hide h
  have HD := hide hd
  have HL := hide hl
  have HFT := hide hfit
  have HR := hide hr
  have HF := hide hf
  have HAA := hide ha
  have HG := hide (And.intro hgen (And.intro hlo hcap))
  have H0 := hide h0
  have hat1 : (g.at_ : Int) + (cnt len : Int) ≤ 1024 := by have := (fit_iff s.n g.at_ (toOf s.n g.gen : Int) len).1 hfit; omega
  clear h hd hl hfit hr hf ha hgen hlo hcap h0
  go_enter Try.func15, Try.ntmps15
  go_wp2_with fail
  refine (isNone_in H.out.l).mono ?_
  rintro e w ⟨rfl, hw1⟩
  subst hw1
  go_wp2_with fail
  go_quiet ((go_at_call 34; refine Calls.quiet_of_same (rof_any (H.out.d.later (below_drewN (Below.refl _ _) _)) g.gen hn hs)))
  go_wp2_with fail
  go_region_held3 (fun w' => w'.cell? ⟨B, 0, none⟩ = some (.pointer (some ⟨D, 0, none⟩)) ∧ w'.cell? ⟨B, 1, none⟩ = some (.int .i64 (g.gen : Int)) ∧ w'.cell? ⟨B, 2, none⟩ = some (.int .i64 (g.at_ : Int)))
    (first
      | (go_split_ands
         refine ⟨?_, ?_, ?_⟩ <;> (first | assumption | (simp only [cell_drewN]; assumption) | (simp only [World.cell?_drew, cell_drewN]; assumption))))
    (first
      | (go_split_ands; go_at_call 47; refine (lay_ok (H.out.d.later (by first | exact below_drewN (Below.refl _ _) _ | exact below_drew1 (below_drewN (Below.refl _ _) _))) g.at_ g.gen (toOf s.n g.gen : Int) a len cap f HG.out.1 (by have := HL.out; omega) HG.out.2.2 (HR.out.below (by first | exact below_drewN (Below.refl _ _) _ | exact below_drew1 (below_drewN (Below.refl _ _) _))) HF.out HAA.out hs (by have := HG.out; omega) HFT.out H0.out).mono ?_; rintro e wA ⟨rfl, FA, hdA, hstA⟩; have sA : Hid (Step F FA w wA) := Step.trans (Step.of_below (by first | exact below_drewN (Below.refl _ _) _ | exact below_drew1 (below_drewN (Below.refl _ _) _))) hstA; have qA : Hid (PLog wA B D g (s.lay g.at_ (ent g.gen f len) (cnt len)).1 FA) := (H.out.later (by first | exact below_drewN (Below.refl _ _) _ | exact below_drew1 (below_drewN (Below.refl _ _) _))).step hdA hstA; have q0 := qA.out.l.c0; have q1 := qA.out.l.c1; have q2 := qA.out.l.c2; have q3 := qA.out.l.c3; rw [HD.out] at q3; have qf := qA.out.l.fz 3; have qf2 := qA.out.l.fz 2; clear hdA hstA))
  all_goals go_wp2
  all_goals go_ret
  all_goals unfold PAppRes
  all_goals rw [append_ok HD.out HL.out HFT.out H0.out]
  all_goals exact ⟨rfl, _, papp_at qA.out (g.at_ + cnt len) (by omega), (Step.log sA.out).trans (PStep.own ((Keeps.refl (fun b => b = B) _).setCell B 2 _ (.inl rfl)))⟩
set_option maxHeartbeats 3200000 in
theorem pappend_no {w : World} {B D : Nat} {g : Lg} {s : St} {F : Nat → Prop} (h : PLog w B D g s F) (hd : g.down = false) (hn : 4 ≤ s.n) (hs : s.n ≤ 1024) (hlo : s.lo.length < 800000) (hgen : g.gen ≤ 2147483647) (a : Option Addr) (len cap : Nat) (f : Nat → Nat) (hl : ¬ 8192 < len) (hcap : len ≤ cap)
    (hr : Rw w a len f) (hf : ∀ i, i < len → f i < 256) (ha : ∀ x, a = some x → 0 < len → ¬ F x.block) (hfit : fit s.n g.at_ (toOf s.n g.gen : Int) len = true) (h0 : (s.lay g.at_ (ent g.gen f len) (cnt len)).2 = 4) :
    Calls Try.prog 15 #[.pointer (some ⟨B, 0, none⟩), .slice a len cap] w fun r w' => PAppRes w w' B D g s F f len r := by
  have c0 := h.l.c0
  have c1 := h.l.c1
  have c2 := h.l.c2
  have c3 := h.l.c3
  rw [hd] at c3
  have H := hide h
  have HD := hide hd
  have HL := hide hl
  have HFT := hide hfit
  have HR := hide hr
  have HF := hide hf
  have HAA := hide ha
  have HG := hide (And.intro hgen (And.intro hlo hcap))
  have H0 := hide h0
  have hat1 : (g.at_ : Int) + (cnt len : Int) ≤ 1024 := by have := (fit_iff s.n g.at_ (toOf s.n g.gen : Int) len).1 hfit; omega
  clear h hd hl hfit hr hf ha hgen hlo hcap h0
  go_enter Try.func15, Try.ntmps15
  go_wp2_with fail
  refine (isNone_in H.out.l).mono ?_
  rintro e w ⟨rfl, hw1⟩
  subst hw1
  go_wp2_with fail
  go_quiet ((go_at_call 34; refine Calls.quiet_of_same (rof_any (H.out.d.later (below_drewN (Below.refl _ _) _)) g.gen hn hs)))
  go_wp2_with fail
  go_region_held3 (fun w' => w'.cell? ⟨B, 0, none⟩ = some (.pointer (some ⟨D, 0, none⟩)) ∧ w'.cell? ⟨B, 1, none⟩ = some (.int .i64 (g.gen : Int)) ∧ w'.cell? ⟨B, 2, none⟩ = some (.int .i64 (g.at_ : Int)))
    (first
      | (go_split_ands
         refine ⟨?_, ?_, ?_⟩ <;> (first | assumption | (simp only [cell_drewN]; assumption) | (simp only [World.cell?_drew, cell_drewN]; assumption))))
    (first
      | (go_split_ands; go_at_call 47; refine (lay_no (H.out.d.later (by first | exact below_drewN (Below.refl _ _) _ | exact below_drew1 (below_drewN (Below.refl _ _) _))) g.at_ g.gen (toOf s.n g.gen : Int) a len cap f HG.out.1 (by have := HL.out; omega) HG.out.2.2 (HR.out.below (by first | exact below_drewN (Below.refl _ _) _ | exact below_drew1 (below_drewN (Below.refl _ _) _))) HF.out HAA.out hs (by have := HG.out; omega) HFT.out H0.out).mono ?_; rintro e wA ⟨rfl, FA, hdA, hstA⟩; have sA : Hid (Step F FA w wA) := Step.trans (Step.of_below (by first | exact below_drewN (Below.refl _ _) _ | exact below_drew1 (below_drewN (Below.refl _ _) _))) hstA; have qA : Hid (PLog wA B D g (s.lay g.at_ (ent g.gen f len) (cnt len)).1 FA) := (H.out.later (by first | exact below_drewN (Below.refl _ _) _ | exact below_drew1 (below_drewN (Below.refl _ _) _))).step hdA hstA; have q0 := qA.out.l.c0; have q1 := qA.out.l.c1; have q2 := qA.out.l.c2; have q3 := qA.out.l.c3; rw [HD.out] at q3; have qf := qA.out.l.fz 3; have qf2 := qA.out.l.fz 2; clear hdA hstA))
  all_goals go_wp2_with fail
  all_goals (refine (failed_in qA.out.l 4).mono ?_; rintro e wB ⟨rfl, rfl⟩)
  all_goals go_wp2
  all_goals go_ret
  all_goals unfold PAppRes
  all_goals rw [append_no HD.out HL.out HFT.out H0.out]
  all_goals exact ⟨rfl, _, papp_dead qA.out, (Step.log sA.out).trans (PStep.own ((Keeps.refl (fun b => b = B) _).setCell B 3 _ (.inl rfl)))⟩
/-- Append, whatever the log is. -/
theorem pappend_any {w : World} {B D : Nat} {g : Lg} {s : St} {F : Nat → Prop} (h : PLog w B D g s F) (hn : 4 ≤ s.n) (hs : s.n ≤ 1024) (hlo : s.lo.length < 800000) (hgen : g.gen ≤ 2147483647) (a : Option Addr) (len cap : Nat) (f : Nat → Nat) (hcap : len ≤ cap)
    (hr : Rw w a len f) (hf : ∀ i, i < len → f i < 256) (ha : ∀ x, a = some x → 0 < len → ¬ F x.block) : Calls Try.prog 15 #[.pointer (some ⟨B, 0, none⟩), .slice a len cap] w fun r w' => PAppRes w w' B D g s F f len r := by
  cases hd : g.down with
  | true => exact pappend_down h hd a len cap f
  | false =>
    by_cases hl : 8192 < len
    · exact pappend_arg h hd hn hs a len cap f hl
    · cases hf2 : fit s.n g.at_ (toOf s.n g.gen : Int) len with
      | false => exact pappend_full h hd hn hs hgen a len cap f hl hf2
      | true =>
        rcases lay_cases s g.at_ g.gen f len with h0 | h0
        · exact pappend_ok h hd hn hs hlo hgen a len cap f hl hcap hr hf ha hf2 h0
        · exact pappend_no h hd hn hs hlo hgen a len cap f hl hcap hr hf ha hf2 h0
end Go.Proofs.Ytbecchoidglaeaa
