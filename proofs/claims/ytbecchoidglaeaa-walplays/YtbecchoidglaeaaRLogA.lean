/- The document's Append. -/
import Derived.Test.YtbecchoidglaeaaRLog
import Derived.Deep.RegionHeld3
import Derived.Deep.QuietTactic
import Derived.BigQuiet
namespace Go.Proofs.Ytbecchoidglaeaa
open Go.RowKit
set_option maxRecDepth 100000

/-- What Append answers. -/
def AppRes (w w' : World) (B V : Nat) (g : Lg) (s : St) (W P : Nat → Prop) (f : Nat → Nat) (len : Nat) (r : Ending) : Prop :=
  r = .returned (.int .i64 ((g.append s f len).2 : Int)) ∧ ∃ W' P', RLog w' B V (g.append s f len).1.2 (g.append s f len).1.1 W' P' ∧ LStep B W P W' P' w w'
set_option maxHeartbeats 400000 in
theorem rappend_down {w : World} {B V : Nat} {g : Lg} {s : St} {W P : Nat → Prop} (h : RLog w B V g s W P) (hd : g.down = true) (a : Option Addr) (len cap : Nat) (f : Nat → Nat) :
    Calls Try.prog 16 #[.pointer (some ⟨B, 0, none⟩), .slice a len cap] w fun r w' => AppRes w w' B V g s W P f len r := by
  have c3 := h.l.c3
  rw [hd] at c3
  have H := hide h
  have HD := hide hd
  clear h hd
  go_enter Try.func16, Try.ntmps16
  go_wp2
  go_ret
  unfold AppRes
  rw [append_down HD.out]
  exact ⟨rfl, W, P, H.out, LStep.refl _ _ _ _⟩
theorem app_same {w : World} {B V : Nat} {g : Lg} {s : St} {W P : Nat → Prop} (h : RLog w B V g s W P) (hd : g.down = false) : RLog (w.setCell ⟨B, 3, none⟩ (.bool false)) B V g s W P := by
  have hl := h.l.setDown false
  rw [lg_same g hd] at hl
  exact h.store hl ((Keeps.refl _ _).setCell B 3 _ (.inl rfl))
theorem app_step {w wq : World} {B : Nat} {W P : Nat → Prop} {v : Value} {i : Nat} (h : Below w.heap.size w wq) : LStep B W P W P w (wq.setCell ⟨B, i, none⟩ v) :=
  (RStep.log (RStep.of_below h)).trans (LStep.own ((Keeps.refl _ _).setCell B i _ (.inl rfl)))
set_option maxRecDepth 100000 in
set_option maxHeartbeats 3200000 in
theorem rappend_arg {w : World} {B V : Nat} {g : Lg} {s : St} {W P : Nat → Prop} (h : RLog w B V g s W P) (hd : g.down = false) (hn : 4 ≤ s.n) (hs : s.n ≤ 1024) (a : Option Addr) (len cap : Nat) (f : Nat → Nat) (hl : 8192 < len) :
    Calls Try.prog 16 #[.pointer (some ⟨B, 0, none⟩), .slice a len cap] w fun r w' => AppRes w w' B V g s W P f len r := by
  have c0 := h.l.c0
  have c1 := h.l.c1
  have c2 := h.l.c2
  have c3 := h.l.c3
  rw [hd] at c3
  have f3 := h.l.fz 3
  have H := hide h
  have HD := hide hd
  have HL := hide hl
  clear h hd hl
  go_enter Try.func16, Try.ntmps16
  go_wp2_with fail
  go_quiet ((go_at_call 41; refine Calls.quiet_of_same (bounds_any (H.out.r.later (below_drewN (Below.refl _ _) _)) g.gen hn hs)))
  go_wp2_with fail
  go_region_held3 (fun w' => w'.cell? ⟨B, 0, none⟩ = some (.pointer (some ⟨V, 0, none⟩)) ∧ w'.cell? ⟨B, 1, none⟩ = some (.int .i64 (g.gen : Int)) ∧ w'.cell? ⟨B, 2, none⟩ = some (.int .i64 (g.at_ : Int)))
    (first
      | (go_split_ands
         refine ⟨?_, ?_, ?_⟩ <;> (first | assumption | (simp only [cell_drewN]; assumption) | (simp only [World.cell?_drew, cell_drewN]; assumption))))
    (first
      | (go_split_ands; go_at_call 49; refine (rlay_arg _ V _ _ _ a len cap (.inl HL.out)).mono ?_; rintro e wA ⟨rfl, rfl⟩))
  all_goals go_wp2
  all_goals go_ret
  all_goals unfold AppRes
  all_goals rw [append_arg HD.out HL.out]
  all_goals exact ⟨rfl, W, P, app_same (H.out.later (by first | exact below_drewN (Below.refl _ _) _ | exact below_drew1 (below_drewN (Below.refl _ _) _))) HD.out, app_step (by first | exact below_drewN (Below.refl _ _) _ | exact below_drew1 (below_drewN (Below.refl _ _) _))⟩
set_option maxRecDepth 100000 in
set_option maxHeartbeats 3200000 in
theorem rappend_full {w : World} {B V : Nat} {g : Lg} {s : St} {W P : Nat → Prop} (h : RLog w B V g s W P) (hd : g.down = false) (hn : 4 ≤ s.n) (hs : s.n ≤ 1024) (hgen : g.gen ≤ 2147483647) (hat : g.at_ ≤ s.n) (a : Option Addr) (len cap : Nat) (f : Nat → Nat) (hl : ¬ 8192 < len) (hcap : len ≤ cap)
    (hr : Rw w a len f) (hf : ∀ i, i < len → f i < 256) (hfit : fit s.n g.at_ (toOf s.n g.gen : Int) len = false) :
    Calls Try.prog 16 #[.pointer (some ⟨B, 0, none⟩), .slice a len cap] w fun r w' => AppRes w w' B V g s W P f len r := by
  have c0 := h.l.c0
  have c1 := h.l.c1
  have c2 := h.l.c2
  have c3 := h.l.c3
  rw [hd] at c3
  have f3 := h.l.fz 3
  have H := hide h
  have HD := hide hd
  have HL := hide hl
  have HFT := hide hfit
  have HR := hide hr
  have HF := hide hf
  have HG := hide (And.intro hgen (And.intro hat hcap))
  have HRM : Hid (min (toOf s.n g.gen : Int) (s.n : Int) - (g.at_ : Int) < (cnt len : Int)) := by
    show _ < _
    have h1 := fit_iff s.n g.at_ (toOf s.n g.gen : Int) len
    rw [hfit] at h1
    have h2 : 1 ≤ cnt len := by unfold cnt; omega
    have h3 : ¬ ((g.at_ : Int) < min (toOf s.n g.gen : Int) (s.n : Int) ∧ (cnt len : Int) ≤ min (toOf s.n g.gen : Int) (s.n : Int) - (g.at_ : Int)) := fun h => by have := h1.2 h; cases this
    omega
  clear h hd hl hfit hr hf hgen hat hcap
  go_enter Try.func16, Try.ntmps16
  go_wp2_with fail
  go_quiet ((go_at_call 41; refine Calls.quiet_of_same (bounds_any (H.out.r.later (below_drewN (Below.refl _ _) _)) g.gen hn hs)))
  go_wp2_with fail
  go_region_held3 (fun w' => w'.cell? ⟨B, 0, none⟩ = some (.pointer (some ⟨V, 0, none⟩)) ∧ w'.cell? ⟨B, 1, none⟩ = some (.int .i64 (g.gen : Int)) ∧ w'.cell? ⟨B, 2, none⟩ = some (.int .i64 (g.at_ : Int)))
    (first
      | (go_split_ands
         refine ⟨?_, ?_, ?_⟩ <;> (first | assumption | (simp only [cell_drewN]; assumption) | (simp only [World.cell?_drew, cell_drewN]; assumption))))
    (first
      | (go_split_ands; go_at_call 49; refine (rlay_full (H.out.r.later (by first | exact below_drewN (Below.refl _ _) _ | exact below_drew1 (below_drewN (Below.refl _ _) _))) g.at_ g.gen (toOf s.n g.gen : Int) (by have := HG.out; omega) a len cap f HG.out.1 (by have := HG.out; omega) (by have := HL.out; omega) HG.out.2.2 (HR.out.below (by first | exact below_drewN (Below.refl _ _) _ | exact below_drew1 (below_drewN (Below.refl _ _) _))) HF.out hs HRM.out).mono ?_; rintro e wA ⟨rfl, hbA⟩; have bA : Hid (Below w.heap.size w wA) := Below.trans (by first | exact below_drewN (Below.refl _ _) _ | exact below_drew1 (below_drewN (Below.refl _ _) _)) hbA; have qA : Hid (RLog wA B V g s W P) := H.out.later bA.out; have q0 := qA.out.l.c0; have q1 := qA.out.l.c1; have q2 := qA.out.l.c2; have q3 := qA.out.l.c3; rw [HD.out] at q3; have qf := qA.out.l.fz 3; clear hbA))
  all_goals go_wp2
  all_goals go_ret
  all_goals unfold AppRes
  all_goals rw [append_full HD.out HL.out HFT.out]
  all_goals exact ⟨rfl, W, P, app_same qA.out HD.out, app_step bA.out⟩
theorem rlay_ok {w : World} {V : Nat} {s : St} {W P : Nat → Prop} (h : RDisk w V s W P) (at_ gen : Nat) (e : Int) (a : Option Addr) (len cap : Nat) (f : Nat → Nat) (hg : gen ≤ 2147483647) (hl : len ≤ 8192) (hcap : len ≤ cap)
    (hr : Rw w a len f) (hf : ∀ i, i < len → f i < 256) (hn : s.n ≤ 1024) (hlo : s.lo.length < 900000) (hroom : (at_ : Int) + (cnt len : Int) ≤ min e (s.n : Int)) (h0 : (s.lay at_ (ent gen f len) (cnt len)).2 = 0) :
    Calls Try.prog 49 #[.pointer (some ⟨V, 0, none⟩), .int .i64 (at_ : Int), .int .i64 e, .int .i64 (gen : Int), .slice a len cap] w fun r w' =>
      r = .returned (.tuple #[.int .i64 ((at_ : Int) + (cnt len : Int)), .int .i64 0]) ∧ ∃ W' P', RDisk w' V (s.lay at_ (ent gen f len) (cnt len)).1 W' P' ∧ RStep W P W' P' w w' := by
  have := rlay_in h at_ gen e a len cap f hg hl hcap hr hf hn hlo hroom
  rw [layNext_good h0, h0] at this
  exact this
theorem rlay_no {w : World} {V : Nat} {s : St} {W P : Nat → Prop} (h : RDisk w V s W P) (at_ gen : Nat) (e : Int) (a : Option Addr) (len cap : Nat) (f : Nat → Nat) (hg : gen ≤ 2147483647) (hl : len ≤ 8192) (hcap : len ≤ cap)
    (hr : Rw w a len f) (hf : ∀ i, i < len → f i < 256) (hn : s.n ≤ 1024) (hlo : s.lo.length < 900000) (hroom : (at_ : Int) + (cnt len : Int) ≤ min e (s.n : Int)) (h0 : (s.lay at_ (ent gen f len) (cnt len)).2 = 4) :
    Calls Try.prog 49 #[.pointer (some ⟨V, 0, none⟩), .int .i64 (at_ : Int), .int .i64 e, .int .i64 (gen : Int), .slice a len cap] w fun r w' =>
      r = .returned (.tuple #[.int .i64 0, .int .i64 4]) ∧ ∃ W' P', RDisk w' V (s.lay at_ (ent gen f len) (cnt len)).1 W' P' ∧ RStep W P W' P' w w' := by
  have := rlay_in h at_ gen e a len cap f hg hl hcap hr hf hn hlo hroom
  rw [layNext_bad h0, h0] at this
  exact this
theorem app_at {w : World} {B V : Nat} {g : Lg} {s : St} {W P : Nat → Prop} (h : RLog w B V g s W P) (hd : g.down = false) (a : Nat) {z : Int} (hz : z = (a : Int)) : RLog ((w.setCell ⟨B, 2, none⟩ (.int .i64 z)).setCell ⟨B, 3, none⟩ (.bool false)) B V { g with at_ := a } s W P := by
  subst hz
  have hl := (h.l.setAt a).setDown false
  have h1 := h.store hl (((Keeps.refl (fun b => b = B) _).setCell B 2 _ (.inl rfl)).setCell B 3 _ (.inl rfl))
  have e : ({ ({ g with at_ := a } : Lg) with down := false } : Lg) = { g with at_ := a } := lg_same _ hd
  rw [e] at h1
  exact h1
theorem app_dead {w : World} {B V : Nat} {g : Lg} {s : St} {W P : Nat → Prop} (h : RLog w B V g s W P) : RLog (w.setCell ⟨B, 3, none⟩ (.bool true)) B V { g with down := true } s W P :=
  h.store (h.l.setDown true) ((Keeps.refl _ _).setCell B 3 _ (.inl rfl))
set_option maxRecDepth 100000 in
set_option maxHeartbeats 3200000 in
theorem rappend_ok {w : World} {B V : Nat} {g : Lg} {s : St} {W P : Nat → Prop} (h : RLog w B V g s W P) (hd : g.down = false) (hn : 4 ≤ s.n) (hs : s.n ≤ 1024) (hlo : s.lo.length < 800000) (hgen : g.gen ≤ 2147483647) (a : Option Addr) (len cap : Nat) (f : Nat → Nat) (hl : ¬ 8192 < len) (hcap : len ≤ cap)
    (hr : Rw w a len f) (hf : ∀ i, i < len → f i < 256) (hfit : fit s.n g.at_ (toOf s.n g.gen : Int) len = true) (h0 : (s.lay g.at_ (ent g.gen f len) (cnt len)).2 = 0) :
    Calls Try.prog 16 #[.pointer (some ⟨B, 0, none⟩), .slice a len cap] w fun r w' => AppRes w w' B V g s W P f len r := by
  have c0 := h.l.c0
  have c1 := h.l.c1
  have c2 := h.l.c2
  have c3 := h.l.c3
  rw [hd] at c3
  have H := hide h
  have HD := hide hd
  have HL := hide hl
  have HFT := hide hfit
  have HR := hide hr
  have HF := hide hf
  have HG := hide (And.intro hgen (And.intro hlo hcap))
  have H0 := hide h0
  have HRM : Hid ((g.at_ : Int) + (cnt len : Int) ≤ min (toOf s.n g.gen : Int) (s.n : Int)) := by
    show _ ≤ _
    have := (fit_iff s.n g.at_ (toOf s.n g.gen : Int) len).1 hfit
    omega
  have hat1 : (g.at_ : Int) + (cnt len : Int) ≤ 1024 := by have := HRM.out; omega
  clear h hd hl hfit hr hf hgen hlo hcap h0
  go_enter Try.func16, Try.ntmps16
  go_wp2_with fail
  go_quiet ((go_at_call 41; refine Calls.quiet_of_same (bounds_any (H.out.r.later (below_drewN (Below.refl _ _) _)) g.gen hn hs)))
  go_wp2_with fail
  go_region_held3 (fun w' => w'.cell? ⟨B, 0, none⟩ = some (.pointer (some ⟨V, 0, none⟩)) ∧ w'.cell? ⟨B, 1, none⟩ = some (.int .i64 (g.gen : Int)) ∧ w'.cell? ⟨B, 2, none⟩ = some (.int .i64 (g.at_ : Int)))
    (first
      | (go_split_ands
         refine ⟨?_, ?_, ?_⟩ <;> (first | assumption | (simp only [cell_drewN]; assumption) | (simp only [World.cell?_drew, cell_drewN]; assumption))))
    (first
      | (go_split_ands; go_at_call 49; refine (rlay_ok (H.out.r.later (by first | exact below_drewN (Below.refl _ _) _ | exact below_drew1 (below_drewN (Below.refl _ _) _))) g.at_ g.gen (toOf s.n g.gen : Int) a len cap f HG.out.1 (by have := HL.out; omega) HG.out.2.2 (HR.out.below (by first | exact below_drewN (Below.refl _ _) _ | exact below_drew1 (below_drewN (Below.refl _ _) _))) HF.out hs (by have := HG.out; omega) HRM.out H0.out).mono ?_; rintro e wA ⟨rfl, WA, PA, hdA, hstA⟩; have sA : Hid (RStep W P WA PA w wA) := RStep.trans (RStep.of_below (by first | exact below_drewN (Below.refl _ _) _ | exact below_drew1 (below_drewN (Below.refl _ _) _))) hstA; have qA : Hid (RLog wA B V g (s.lay g.at_ (ent g.gen f len) (cnt len)).1 WA PA) := (H.out.later (by first | exact below_drewN (Below.refl _ _) _ | exact below_drew1 (below_drewN (Below.refl _ _) _))).step hdA hstA; have q0 := qA.out.l.c0; have q1 := qA.out.l.c1; have q2 := qA.out.l.c2; have q3 := qA.out.l.c3; rw [HD.out] at q3; have qf := qA.out.l.fz 3; have qf2 := qA.out.l.fz 2; clear hdA hstA))
  all_goals go_wp2
  all_goals go_ret
  all_goals unfold AppRes
  all_goals rw [append_ok HD.out HL.out HFT.out H0.out]
  all_goals exact ⟨rfl, _, _, app_at qA.out HD.out (g.at_ + cnt len) (by omega), (RStep.log sA.out).trans (LStep.own (((Keeps.refl (fun b => b = B) _).setCell B 2 _ (.inl rfl)).setCell B 3 _ (.inl rfl)))⟩
set_option maxRecDepth 100000 in
set_option maxHeartbeats 3200000 in
theorem rappend_no {w : World} {B V : Nat} {g : Lg} {s : St} {W P : Nat → Prop} (h : RLog w B V g s W P) (hd : g.down = false) (hn : 4 ≤ s.n) (hs : s.n ≤ 1024) (hlo : s.lo.length < 800000) (hgen : g.gen ≤ 2147483647) (a : Option Addr) (len cap : Nat) (f : Nat → Nat) (hl : ¬ 8192 < len) (hcap : len ≤ cap)
    (hr : Rw w a len f) (hf : ∀ i, i < len → f i < 256) (hfit : fit s.n g.at_ (toOf s.n g.gen : Int) len = true) (h0 : (s.lay g.at_ (ent g.gen f len) (cnt len)).2 = 4) :
    Calls Try.prog 16 #[.pointer (some ⟨B, 0, none⟩), .slice a len cap] w fun r w' => AppRes w w' B V g s W P f len r := by
  have c0 := h.l.c0
  have c1 := h.l.c1
  have c2 := h.l.c2
  have c3 := h.l.c3
  rw [hd] at c3
  have H := hide h
  have HD := hide hd
  have HL := hide hl
  have HFT := hide hfit
  have HR := hide hr
  have HF := hide hf
  have HG := hide (And.intro hgen (And.intro hlo hcap))
  have H0 := hide h0
  have HRM : Hid ((g.at_ : Int) + (cnt len : Int) ≤ min (toOf s.n g.gen : Int) (s.n : Int)) := by
    show _ ≤ _
    have := (fit_iff s.n g.at_ (toOf s.n g.gen : Int) len).1 hfit
    omega
  have hat1 : (g.at_ : Int) + (cnt len : Int) ≤ 1024 := by have := HRM.out; omega
  clear h hd hl hfit hr hf hgen hlo hcap h0
  go_enter Try.func16, Try.ntmps16
  go_wp2_with fail
  go_quiet ((go_at_call 41; refine Calls.quiet_of_same (bounds_any (H.out.r.later (below_drewN (Below.refl _ _) _)) g.gen hn hs)))
  go_wp2_with fail
  go_region_held3 (fun w' => w'.cell? ⟨B, 0, none⟩ = some (.pointer (some ⟨V, 0, none⟩)) ∧ w'.cell? ⟨B, 1, none⟩ = some (.int .i64 (g.gen : Int)) ∧ w'.cell? ⟨B, 2, none⟩ = some (.int .i64 (g.at_ : Int)))
    (first
      | (go_split_ands
         refine ⟨?_, ?_, ?_⟩ <;> (first | assumption | (simp only [cell_drewN]; assumption) | (simp only [World.cell?_drew, cell_drewN]; assumption))))
    (first
      | (go_split_ands; go_at_call 49; refine (rlay_no (H.out.r.later (by first | exact below_drewN (Below.refl _ _) _ | exact below_drew1 (below_drewN (Below.refl _ _) _))) g.at_ g.gen (toOf s.n g.gen : Int) a len cap f HG.out.1 (by have := HL.out; omega) HG.out.2.2 (HR.out.below (by first | exact below_drewN (Below.refl _ _) _ | exact below_drew1 (below_drewN (Below.refl _ _) _))) HF.out hs (by have := HG.out; omega) HRM.out H0.out).mono ?_; rintro e wA ⟨rfl, WA, PA, hdA, hstA⟩; have sA : Hid (RStep W P WA PA w wA) := RStep.trans (RStep.of_below (by first | exact below_drewN (Below.refl _ _) _ | exact below_drew1 (below_drewN (Below.refl _ _) _))) hstA; have qA : Hid (RLog wA B V g (s.lay g.at_ (ent g.gen f len) (cnt len)).1 WA PA) := (H.out.later (by first | exact below_drewN (Below.refl _ _) _ | exact below_drew1 (below_drewN (Below.refl _ _) _))).step hdA hstA; have q0 := qA.out.l.c0; have q1 := qA.out.l.c1; have q2 := qA.out.l.c2; have q3 := qA.out.l.c3; rw [HD.out] at q3; have qf := qA.out.l.fz 3; have qf2 := qA.out.l.fz 2; clear hdA hstA))
  all_goals go_wp2
  all_goals go_ret
  all_goals unfold AppRes
  all_goals rw [append_no HD.out HL.out HFT.out H0.out]
  all_goals exact ⟨rfl, _, _, app_dead qA.out, (RStep.log sA.out).trans (LStep.own ((Keeps.refl (fun b => b = B) _).setCell B 3 _ (.inl rfl)))⟩
/-- Append, whatever the log is. -/
theorem rappend_any {w : World} {B V : Nat} {g : Lg} {s : St} {W P : Nat → Prop} (h : RLog w B V g s W P) (hn : 4 ≤ s.n) (hs : s.n ≤ 1024) (hlo : s.lo.length < 800000) (hgen : g.gen ≤ 2147483647) (hat : g.at_ ≤ s.n) (a : Option Addr) (len cap : Nat) (f : Nat → Nat) (hcap : len ≤ cap)
    (hr : Rw w a len f) (hf : ∀ i, i < len → f i < 256) : Calls Try.prog 16 #[.pointer (some ⟨B, 0, none⟩), .slice a len cap] w fun r w' => AppRes w w' B V g s W P f len r := by
  cases hd : g.down with
  | true => exact rappend_down h hd a len cap f
  | false =>
    by_cases hl : 8192 < len
    · exact rappend_arg h hd hn hs a len cap f hl
    · cases hf2 : fit s.n g.at_ (toOf s.n g.gen : Int) len with
      | false => exact rappend_full h hd hn hs hgen hat a len cap f hl hcap hr hf hf2
      | true =>
        rcases lay_cases s g.at_ g.gen f len with h0 | h0
        · exact rappend_ok h hd hn hs hlo hgen a len cap f hl hcap hr hf hf2 h0
        · exact rappend_no h hd hn hs hlo hgen a len cap f hl hcap hr hf hf2 h0
end Go.Proofs.Ytbecchoidglaeaa
