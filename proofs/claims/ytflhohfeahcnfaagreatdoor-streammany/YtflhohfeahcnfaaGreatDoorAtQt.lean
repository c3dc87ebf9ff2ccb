/- What is thrown. -/
import Derived.Test.YtflhohfeahcnfaaGreatDoorAtSn
import Derived.Test.YtflhohfeahcnfaaGreatDoorAtQ
import Derived.Test.YtflhohfeahcnfaaGreatDoorPthOw
import Derived.Recover
namespace Go.Proofs.YtflhohfeahcnfaaGreatDoor
open Go.RowKit
set_option maxRecDepth 100000

theorem eqlB_nil (a : Option Addr) (l c : Nat) (w : World) : (binOp .eql 22 (.slice a l c) (.slice none 0 0)).run Tryz.prog w = .ok (.bool a.isNone) w := by
  simp only [binOp]
  simp [run_equal_slice_nil w 22 5 a l c Tryz.underlying22]
section
attribute [local go_sem ↓] kept_append
attribute [local go_sem] eqlB_nil
set_option maxHeartbeats 1600000 in
theorem clone_any (a : Option Addr) (cap : Nat) (d : List Nat) (w : World) (hl : d.length ≤ 100000) (h : BRd w a d) :
    Calls Tryz.prog 60 #[.slice a d.length cap] w fun e w' => ∃ a9 c9, e = .returned (.slice a9 d.length c9) ∧ w'.ownsRow w.heap.size 5 1 (.slice a9 d.length c9) d.length (bcells d) ∧ Below w.heap.size w w' := by
  cases a with
  | none =>
    have h0 : d = [] := by
      cases d with
      | nil => rfl
      | cons z r => obtain ⟨b, off, e, _⟩ := h.1.2 (by simp); cases e
    subst h0
    clear h
    go_enter Tryz.func60, Tryz.ntmps60
    go_wp2
    go_ret
    exact ⟨none, 0, rfl, own_nil _ _ _ _, Below.refl _ _⟩
  | some ad =>
    have hb2 : Below w.heap.size w (w.alloc (.cells #[] 5)) := (Below.refl _ _).alloc (Nat.le_refl _) _
    have hm : (w.alloc (.cells #[] 5)).ownsRow w.heap.size 5 1 (.slice (some ⟨w.heap.size, 0, none⟩) 0 0) 0 (bcells []) :=
      ⟨rfl, .inr ⟨w.heap.size, 0, _, rfl, Nat.le_refl _, by unfold World.alloc; exact Array.getElem?_push_size, Nat.le_refl _, by unfold maxLen; omega, rfl, rfl⟩⟩
    obtain ⟨v', w3, hr, ho, hb3⟩ := app_brd (n := 0) (ys := []) d (some ad) cap rfl hm hb2.size (by omega) (h.below hb2)
    obtain ⟨a9, c9, rfl⟩ := own_shape ho
    have hlen : (([] : List Nat) ++ d).length = d.length := rfl
    rw [hlen] at hr
    have HO : Hid (w3.ownsRow w.heap.size 5 1 (.slice a9 d.length c9) d.length (bcells d)) := ho
    have HB : Hid (Below w.heap.size w w3) := hb2.trans hb3
    have HR := hide hr
    clear hr ho hb3 hm hb2 h hlen
    generalize d.length = n at *
    go_enter Tryz.func60, Tryz.ntmps60
    go_wp2_with (refine kept_append_intro _ _ _ _ (.slice a9 n c9) (w' := w3) (by rfl) (by rfl) (by exact HR.out) ?_)
    go_ret
    exact ⟨a9, c9, rfl, HO.out, HB.out⟩
end
/-- What is thrown. -/
def thrown (s : Int) (a : Option Addr) (n c : Nat) : Ending := .panicked [{ v := .iface 122 (.agg #[.int .i64 3, .int .i64 s, .slice a n c]), recovered := false }]
/-- A note is thrown: its number and its bytes. -/
def Throws (w w' : World) (s : Int) (d : List Nat) (e : Ending) : Prop := ∃ a9 c9, e = thrown s a9 d.length c9 ∧ w'.ownsRow w.heap.size 5 1 (.slice a9 d.length c9) d.length (bcells d) ∧ Below w.heap.size w w'
set_option maxHeartbeats 1600000 in
theorem throw_any (s : Int) (a : Option Addr) (cap : Nat) (d : List Nat) (w : World) (hl : d.length ≤ 100000) (h : BRd w a d) :
    Calls Tryz.prog 70 #[.int .i64 s, .slice a d.length cap] w fun e w' => Throws w w' s d e := by
  have K := hide (clone_any a cap d w hl h)
  clear h
  unfold Throws
  generalize d.length = n at *
  go_enter Tryz.func70, Tryz.ntmps70
  go_wp2_with fail
  refine K.out.mono ?_
  rintro e w1 ⟨a9, c9, rfl, ho, hb⟩
  go_wp2
  exact ⟨rfl, a9, c9, rfl, ho, hb⟩
/-- A part as a value. -/
def partV (fl ty : Int) (a1 : Option Addr) (n1 c1 : Nat) (a2 : Option Addr) (n2 c2 : Nat) : Value := .agg #[.int .i64 fl, .int .i64 ty, .slice a1 n1 c1, .slice a2 n2 c2]
set_option maxHeartbeats 1600000 in
theorem refuse_yes (fl ty s : Int) (a1 : Option Addr) (n1 c1 : Nat) (a2 : Option Addr) (n2 c2 : Nat) (w : World) :
    Calls Tryz.prog 97 #[partV fl ty a1 n1 c1 a2 n2 c2, .bool true, .int .i64 s] w fun e w' => e = .returned (.tuple #[]) ∧ Below w.heap.size w w' := by
  unfold partV
  go_enter Tryz.func97, Tryz.ntmps97
  go_wp2
  go_end0
  exact ⟨rfl, (Below.refl _ _).alloc (Nat.le_refl _) _⟩
theorem Throws.from {w0 w w' : World} {s : Int} {d : List Nat} {e : Ending} (h : Throws w w' s d e) (hb : Below w0.heap.size w0 w) : Throws w0 w' s d e := by
  obtain ⟨a9, c9, he, ho, hb2⟩ := h
  exact ⟨a9, c9, he, own_base ho hb.size, hb.trans (hb2.mono hb.size)⟩
set_option maxHeartbeats 1600000 in
theorem refuse_no (fl ty s : Int) (a1 : Option Addr) (n1 c1 : Nat) (a2 : Option Addr) (c2 : Nat) (d : List Nat) (w : World) (hl : d.length ≤ 100000) (h : BRd w a2 d) :
    Calls Tryz.prog 97 #[partV fl ty a1 n1 c1 a2 d.length c2, .bool false, .int .i64 s] w fun e w' => Throws w w' s d e := by
  have hb : ∀ o, Below w.heap.size w (w.alloc o) := fun o => (Below.refl _ _).alloc (Nat.le_refl _) _
  have K : Hid (∀ o, Calls Tryz.prog 70 #[.int .i64 s, .slice a2 d.length c2] (w.alloc o) fun e w' => Throws w w' s d e) := fun o => (throw_any s a2 c2 d (w.alloc o) hl (h.below (hb o))).mono fun e w' h9 => h9.from (hb o)
  clear h hb
  unfold partV
  unfold Throws at K ⊢
  unfold thrown at K ⊢
  generalize d.length = n at *
  go_enter Tryz.func97, Tryz.ntmps97
  go_wp2_with fail
  refine (K.out _).mono ?_
  rintro e w1 ⟨a9, c9, rfl, ho, hb⟩
  go_wp2
  exact ⟨rfl, a9, c9, rfl, ho, hb⟩
end Go.Proofs.YtflhohfeahcnfaaGreatDoor
