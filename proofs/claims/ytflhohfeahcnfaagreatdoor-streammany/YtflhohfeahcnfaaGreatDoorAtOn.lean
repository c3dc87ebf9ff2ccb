/- Bytes behind a row of the call's own; the document's one. -/
import Derived.Test.YtflhohfeahcnfaaGreatDoorAtP
import Derived.Test.YtflhohfeahcnfaaGreatDoorBrd
namespace Go.Proofs.YtflhohfeahcnfaaGreatDoor
open Go.RowKit
set_option maxRecDepth 100000

/-- An attribute's bytes. -/
def oneB (fl ty : Nat) (bs : List Nat) : List Nat := if 255 < bs.length then [fl + 16, ty, bs.length / 256, bs.length % 256] ++ bs else [fl, ty, bs.length] ++ bs
theorem oneB_length (fl ty : Nat) (bs : List Nat) : (oneB fl ty bs).length ≤ bs.length + 4 := by
  unfold oneB
  split <;> simp
theorem oneB_pos (fl ty : Nat) (bs : List Nat) : 0 < (oneB fl ty bs).length := by
  unfold oneB
  split <;> simp
theorem oneB_lt (fl ty : Nat) (bs : List Nat) (hf : fl < 240) (ht : ty < 256) (hl : bs.length < 65536) (hb : ∀ x ∈ bs, x < 256) : ∀ x ∈ oneB fl ty bs, x < 256 := by
  intro x hx
  unfold oneB at hx
  split at hx
  · simp only [List.cons_append, List.nil_append, List.mem_cons] at hx
    rcases hx with rfl | rfl | rfl | rfl | hx
    · omega
    · omega
    · omega
    · omega
    · exact hb x hx
  · simp only [List.cons_append, List.nil_append, List.mem_cons] at hx
    rcases hx with rfl | rfl | rfl | hx
    · omega
    · omega
    · omega
    · exact hb x hx
section
attribute [local go_sem ↓] kept_append
set_option maxHeartbeats 1600000 in
theorem one_any (fl ty : Nat) (a : Option Addr) (c : Nat) (bs : List Nat) (w : World) (hf : fl < 240) (ht : ty < 256) (hl : bs.length ≤ 60000) (h : BRd w a bs) :
    Calls Tryz.prog 78 #[.int .i64 (fl : Int), .int .i64 (ty : Int), .slice a bs.length c] w fun e w' => ∃ v, e = .returned v ∧ w'.ownsRow w.heap.size 5 1 v (oneB fl ty bs).length (bcells (oneB fl ty bs)) ∧ Below w.heap.size w w' := by
  have HE := hide (show oneB fl ty bs = if 255 < bs.length then [fl + 16, ty, bs.length / 256, bs.length % 256] ++ bs else [fl, ty, bs.length] ++ bs from rfl)
  generalize oneB fl ty bs = ob at *
  have hb0 : ∀ cur : Array Value, Below w.heap.size w (w.alloc (.cells cur 5)) := fun cur => (Below.refl _ _).alloc (Nat.le_refl _) _
  by_cases h255 : 255 < bs.length
  · have HE2 : Hid (ob = [fl + 16, ty, bs.length / 256, bs.length % 256] ++ bs) := by show ob = _; rw [HE.out, if_pos h255]
    have hm : ∀ cur : Array Value, cur = #[.int .u8 (((fl + 16 : Nat)) : Int), .int .u8 (ty : Int), .int .u8 ((bs.length / 256 : Nat) : Int), .int .u8 ((bs.length % 256 : Nat) : Int)] → (w.alloc (.cells cur 5)).ownsRow w.heap.size 5 1 (.slice (some ⟨w.heap.size, 0, none⟩) 4 4) 4 (bcells [fl + 16, ty, bs.length / 256, bs.length % 256]) := fun cur e => by
      subst e
      exact ⟨rfl, .inr ⟨w.heap.size, 4, _, rfl, Nat.le_refl _, by unfold World.alloc; exact Array.getElem?_push_size, Nat.le_refl _, by unfold maxLen; omega, rfl, rfl⟩⟩
    obtain ⟨v', w', hr, ho, hb⟩ := app_brd bs a c rfl (hm #[.int .u8 ((fl : Int) + 16), .int .u8 (ty : Int), .int .u8 ((bs.length : Int) / 256), .int .u8 ((bs.length : Int) % 256)] (by simp)) (hb0 _).size (by simp; omega) (h.below (hb0 _))
    have HR := hide hr
    rw [← HE2.out] at ho
    have HO := hide ho
    have HB := hide ((hb0 _).trans hb)
    clear hr ho hb hm h HE HE2
    generalize bs.length = n at *
    have i255 : (255 : Int) < (n : Int) := by omega
    go_enter Tryz.func78, Tryz.ntmps78
    go_wp2_with fail
    refine kept_append_intro _ _ _ _ v' (w' := w') (by rfl) (by rfl) (by exact HR.out) ?_
    go_wp2
    go_ret
    exact ⟨_, rfl, HO.out, HB.out⟩
  · have HE2 : Hid (ob = [fl, ty, bs.length] ++ bs) := by show ob = _; rw [HE.out, if_neg h255]
    have hm : (w.alloc (.cells #[.int .u8 (fl : Int), .int .u8 (ty : Int), .int .u8 (bs.length : Int)] 5)).ownsRow w.heap.size 5 1 (.slice (some ⟨w.heap.size, 0, none⟩) 3 3) 3 (bcells [fl, ty, bs.length]) :=
      ⟨rfl, .inr ⟨w.heap.size, 3, _, rfl, Nat.le_refl _, by unfold World.alloc; exact Array.getElem?_push_size, Nat.le_refl _, by unfold maxLen; omega, rfl, rfl⟩⟩
    obtain ⟨v', w', hr, ho, hb⟩ := app_brd bs a c rfl hm (hb0 _).size (by simp; omega) (h.below (hb0 _))
    have HR := hide hr
    rw [← HE2.out] at ho
    have HO := hide ho
    have HB := hide ((hb0 _).trans hb)
    clear hr ho hb hm h HE HE2
    generalize bs.length = n at *
    have i255 : decide ((255 : Int) < (n : Int)) = false := decide_eq_false (by omega)
    go_enter Tryz.func78, Tryz.ntmps78
    go_wp2_with fail
    refine kept_append_intro _ _ _ _ v' (w' := w') (by rfl) (by rfl) (by exact HR.out) ?_
    go_wp2
    go_ret
    exact ⟨_, rfl, HO.out, HB.out⟩
end
end Go.Proofs.YtflhohfeahcnfaaGreatDoor
