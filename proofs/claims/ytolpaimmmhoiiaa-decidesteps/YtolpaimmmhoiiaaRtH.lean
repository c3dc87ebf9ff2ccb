/- Communities; the program's rules over attributes; meets. -/
import Derived.Test.YtolpaimmmhoiiaaHPb
import Derived.Test.YtolpaimmmhoiiaaPthQt
import Derived.Laws.EntriesVeiled
namespace Go.Proofs.Ytolpaimmmhoiiaa
open Go.RowKit
set_option maxRecDepth 100000

/-! ### The rules -/
/-- v is a rule that tells y of the attributes av. -/
def RuleIs (w : World) (v av : Value) (y : Bool) : Prop := ∃ f caps, v = .func (.func f) #[] caps ∧ (∀ args w, (callFunc f args).run Try.prog w = .ok (.enter f args) w) ∧ ∀ w1, Below w.heap.size w w1 → Calls Try.prog f (#[av] ++ caps) w1 fun e w2 => e = .returned (.bool y) ∧ Below w1.heap.size w1 w2
theorem RuleIs.below {w w' : World} {v av : Value} {y : Bool} (h : RuleIs w v av y) (hb : Below w.heap.size w w') : RuleIs w' v av y := by
  obtain ⟨f, caps, e, h1, h2⟩ := h
  exact ⟨f, caps, e, h1, fun w1 h9 => h2 w1 (hb.trans (h9.mono hb.size))⟩
set_option maxHeartbeats 800000 in
theorem leads1_any (o : Int) (pa : Option Addr) (pn pc nx : Nat) (md pf : Int) (ca : Option Addr) (cn cc : Nat) (ra : Option Addr) (rn rc : Nat) (X : Nat) (x : Int) (ps : List (Bool × List Int)) (w : World) (hn : ps.length = pn) (hsum : ps.length + sumP ps ≤ 100000) (h : PthRd w pa ps) (hX : w.cell? ⟨X, 0, none⟩ = some (.int .i64 x)) :
    Calls Try.prog 51 #[.agg #[.int .i64 o, .slice pa pn pc, .int .u32 (nx : Int), .int .i64 md, .int .i64 pf, .slice ca cn cc, .slice ra rn rc], .pointer (some ⟨X, 0, none⟩)] w fun e w' => e = .returned (.bool (hasP ps x)) ∧ Below w.heap.size w w' := by
  have zX := World.block_lt_of_cell? w _ hX
  simp only at zX
  subst hn
  have HK : Hid (∀ cur t, Calls Try.prog 52 #[.slice pa ps.length pc, .int .i64 x] (w.alloc (.cells cur t)) fun e w' => e = .returned (.bool (hasP ps x)) ∧ Below (w.alloc (.cells cur t)).heap.size (w.alloc (.cells cur t)) w') := fun cur t => has_any pa pc x ps _ hsum (h.below ((Below.refl _ _).alloc (Nat.le_refl _) _))
  clear h hsum
  generalize ps.length = l at *
  go_enter Try.func51, Try.ntmps51
  go_wp2_with fail
  refine (HK.out _ _).mono ?_
  rintro e w1 ⟨rfl, hb⟩
  have HB : Hid (Below w.heap.size w w1) := ((Below.refl _ _).alloc (Nat.le_refl _) _).trans (hb.mono (by simp))
  clear HK hb
  go_wp2
  go_ret
  exact ⟨rfl, HB.out⟩
set_option maxHeartbeats 800000 in
theorem not1_any (o : Int) (pa : Option Addr) (pn pc nx : Nat) (md pf : Int) (ca : Option Addr) (cn cc : Nat) (ra : Option Addr) (rn rc : Nat) (X : Nat) (v : Value) (y : Bool) (w : World) (h : RuleIs w v (.agg #[.int .i64 o, .slice pa pn pc, .int .u32 (nx : Int), .int .i64 md, .int .i64 pf, .slice ca cn cc, .slice ra rn rc]) y) (hX : w.cell? ⟨X, 0, none⟩ = some v) :
    Calls Try.prog 50 #[.agg #[.int .i64 o, .slice pa pn pc, .int .u32 (nx : Int), .int .i64 md, .int .i64 pf, .slice ca cn cc, .slice ra rn rc], .pointer (some ⟨X, 0, none⟩)] w fun e w' => e = .returned (.bool (!y)) ∧ Below w.heap.size w w' := by
  obtain ⟨f, caps, rfl, ek, hk⟩ := h
  have HK := hide hk
  have zX := World.block_lt_of_cell? w _ hX
  simp only at zX
  clear hk
  go_enter Try.func50, Try.ntmps50
  go_wp2_with fail
  refine (HK.out _ ((Below.refl _ _).alloc (Nat.le_refl _) _)).mono ?_
  rintro e w1 ⟨rfl, hb⟩
  have HB : Hid (Below w.heap.size w w1) := ((Below.refl _ _).alloc (Nat.le_refl _) _).trans (hb.mono (by simp))
  clear HK hb
  go_wp2
  go_ret
  exact ⟨rfl, HB.out⟩
set_option maxHeartbeats 400000 in
theorem leads_any (x : Int) (w : World) : Calls Try.prog 40 #[.int .i64 x] w fun e w' => e = .returned (.func (.func 51) #[] #[.pointer (some ⟨w.heap.size, 0, none⟩)]) ∧ w' = w.alloc (.cells #[.int .i64 x] 3) := by
  go_enter Try.func40, Try.ntmps40
  go_wp2
  go_ret
  exact ⟨rfl, rfl⟩
set_option maxHeartbeats 400000 in
theorem not_any (f : Nat) (caps : Array Value) (w : World) : Calls Try.prog 39 #[.func (.func f) #[] caps] w fun e w' => e = .returned (.func (.func 50) #[] #[.pointer (some ⟨w.heap.size, 0, none⟩)]) ∧ w' = w.alloc (.cells #[.func (.func f) #[] caps] 73) := by
  go_enter Try.func39, Try.ntmps39
  go_wp2
  go_ret
  exact ⟨rfl, rfl⟩
theorem rule_leads {w : World} {pa : Option Addr} {pc : Nat} {ca : Option Addr} {cc : Nat} {ra : Option Addr} {rc : Nat} {a : At} {X : Nat} {x : Int} (hl : a.path.length + sumP a.path ≤ 100000) (h : PthRd w pa a.path) (hX : w.cell? ⟨X, 0, none⟩ = some (.int .i64 x)) :
    RuleIs w (.func (.func 51) #[] #[.pointer (some ⟨X, 0, none⟩)]) (atV pa pc ca cc ra rc a) (hasP a.path x) :=
  ⟨_, _, rfl, Try.call51, fun w1 hb => leads1_any a.origin pa _ pc a.next a.med a.pref ca _ cc ra _ rc X x a.path w1 rfl hl (h.below hb) (by rw [hb.cell (p := ⟨X, 0, none⟩) (World.block_lt_of_cell? w _ hX)]; exact hX)⟩
theorem rule_not {w : World} {pa : Option Addr} {pc : Nat} {ca : Option Addr} {cc : Nat} {ra : Option Addr} {rc : Nat} {a : At} {X : Nat} {v : Value} {y : Bool} (h : RuleIs w v (atV pa pc ca cc ra rc a) y) (hX : w.cell? ⟨X, 0, none⟩ = some v) :
    RuleIs w (.func (.func 50) #[] #[.pointer (some ⟨X, 0, none⟩)]) (atV pa pc ca cc ra rc a) (!y) :=
  ⟨_, _, rfl, Try.call50, fun w1 hb => not1_any a.origin pa _ pc a.next a.med a.pref ca _ cc ra _ rc X v y w1 (h.below hb) (by rw [hb.cell (p := ⟨X, 0, none⟩) (World.block_lt_of_cell? w _ hX)]; exact hX)⟩
/-! ### meets -/
/-- Do the first n hold? -/
def allUp (rb : Nat → Bool) : Nat → Bool
  | 0 => true
  | n + 1 => allUp rb n && rb n
theorem allUp_false (rb : Nat → Bool) (k : Nat) (h : rb k = false) : ∀ n, k < n → allUp rb n = false
  | 0, hk => absurd hk (by omega)
  | n + 1, hk => by
    by_cases e : k = n
    · subst e; simp [allUp, h]
    · simp [allUp, allUp_false rb k h n (by omega)]
/-- Attributes in a box. -/
structure AtBx (w : World) (X f : Nat) (o : Int) (pa : Option Addr) (pn pc nx : Nat) (md pf : Int) (ca : Option Addr) (cn cc : Nat) (ra : Option Addr) (rn rc : Nat) : Prop where
  c0 : w.cell? ⟨X, f, none⟩ = some (.int .i64 o)
  c1 : w.cell? ⟨X, f + 1, none⟩ = some (.slice pa pn pc)
  c2 : w.cell? ⟨X, f + 2, none⟩ = some (.int .u32 (nx : Int))
  c3 : w.cell? ⟨X, f + 3, none⟩ = some (.int .i64 md)
  c4 : w.cell? ⟨X, f + 4, none⟩ = some (.int .i64 pf)
  c5 : w.cell? ⟨X, f + 5, none⟩ = some (.slice ca cn cc)
  c6 : w.cell? ⟨X, f + 6, none⟩ = some (.slice ra rn rc)
theorem AtBx.below {w w' : World} {X f : Nat} {o : Int} {pa : Option Addr} {pn pc nx : Nat} {md pf : Int} {ca : Option Addr} {cn cc : Nat} {ra : Option Addr} {rn rc : Nat} (h : AtBx w X f o pa pn pc nx md pf ca cn cc ra rn rc) (hb : Below w.heap.size w w') : AtBx w' X f o pa pn pc nx md pf ca cn cc ra rn rc := by
  have k : X < w.heap.size := World.block_lt_of_cell? w _ h.c0
  exact ⟨by rw [hb.cell (p := ⟨X, f, none⟩) k]; exact h.c0, by rw [hb.cell (p := ⟨X, f + 1, none⟩) k]; exact h.c1, by rw [hb.cell (p := ⟨X, f + 2, none⟩) k]; exact h.c2, by rw [hb.cell (p := ⟨X, f + 3, none⟩) k]; exact h.c3, by rw [hb.cell (p := ⟨X, f + 4, none⟩) k]; exact h.c4, by rw [hb.cell (p := ⟨X, f + 5, none⟩) k]; exact h.c5, by rw [hb.cell (p := ⟨X, f + 6, none⟩) k]; exact h.c6⟩
theorem AtBx.lt {w : World} {X f : Nat} {o : Int} {pa : Option Addr} {pn pc nx : Nat} {md pf : Int} {ca : Option Addr} {cn cc : Nat} {ra : Option Addr} {rn rc : Nat} (h : AtBx w X f o pa pn pc nx md pf ca cn cc ra rn rc) : X < w.heap.size := World.block_lt_of_cell? w _ h.c0
set_option maxHeartbeats 1600000 in
theorem meets_at (o : Int) (pa : Option Addr) (pn pc nx : Nat) (md pf : Int) (ca : Option Addr) (cn cc : Nat) (ra : Option Addr) (rn rc : Nat) (b n c : Nat) (rb : Nat → Bool) (w : World) (hn : n ≤ 3) (h : ∀ i, i < n → ∃ v, w.cell? ⟨b, i, none⟩ = some v ∧ RuleIs w v (.agg #[.int .i64 o, .slice pa pn pc, .int .u32 (nx : Int), .int .i64 md, .int .i64 pf, .slice ca cn cc, .slice ra rn rc]) (rb i)) :
    Calls Try.prog 38 #[.agg #[.int .i64 o, .slice pa pn pc, .int .u32 (nx : Int), .int .i64 md, .int .i64 pf, .slice ca cn cc, .slice ra rn rc], .slice (some ⟨b, 0, none⟩) n c] w fun e w' => e = .returned (.bool (allUp rb n)) ∧ Below w.heap.size w w' := by
  have HH := hide h
  clear h
  go_enter Try.func38, Try.ntmps38
  go_wp2
  go_loopw [9] (fun i wq => ∃ k : Nat, k ≤ n ∧ i = .int .i64 k ∧ Hid (allUp rb k = true) ∧ Hid (Below w.heap.size w wq) ∧ Hid (AtBx wq w.heap.size 0 o pa pn pc nx md pf ca cn cc ra rn rc)) (fun i _ => n - (intOf i).toNat)
  case atStart => exact ⟨0, Nat.zero_le _, rfl, rfl, (Below.refl _ _).alloc (Nat.le_refl _) _, ⟨by simp [go_sem], by simp [go_sem], by simp [go_sem], by simp [go_sem], by simp [go_sem], by simp [go_sem], by simp [go_sem]⟩⟩
  case round =>
    obtain ⟨k, hk, rfl, HA, HB, HX⟩ := hrel
    have hz := HX.out.lt
    by_cases hlt : k < n
    · obtain ⟨v, hv, hr⟩ := HH.out k hlt
      have hv2 : wr.cell? ⟨b, k, none⟩ = some v := by
        rw [HB.out.cell (p := ⟨b, k, none⟩) (World.block_lt_of_cell? w _ hv)]
        exact hv
      obtain ⟨f, caps, rfl, ek, hk9⟩ := hr
      have HK := hide (hk9 wr HB.out)
      clear hk9 hv
      have hk0 : (0 : Int) ≤ (k : Int) := Int.natCast_nonneg _
      have hk1 : (k : Int) < (n : Int) := by omega
      obtain ⟨c0, c1, c2, c3, c4, c5, c6⟩ := HX.out
      simp only [Nat.zero_add] at c1 c2 c3 c4 c5 c6
      have zb := World.block_lt_of_cell? wr _ hv2
      simp only at zb
      go_wp2_with fail
      refine HK.out.mono ?_
      rintro e w2 ⟨rfl, hb2⟩
      have HX2 := hide (HX.out.below hb2)
      have HB2 : Hid (Below w.heap.size w w2) := HB.out.trans (hb2.mono HB.out.size)
      clear hb2 c0 c1 c2 c3 c4 c5 c6 hv2 ek HK
      cases hr : rb k with
      | true =>
        have HR := hide hr
        clear hr
        go_wp2
        exact ⟨⟨k + 1, by omega, by go_num, show allUp rb (k + 1) = true by simp [allUp, HA.out, HR.out], HB2, HX2⟩, by simp [intOf]; omega⟩
      | false =>
        have HR := hide hr
        clear hr
        go_wp2
        go_ret
        exact ⟨ret_bool (allUp_false rb k HR.out n hlt).symm, HB2.out⟩
    · go_wp2
      go_ret
      exact ⟨ret_bool (by rw [← HA.out, show k = n from by omega]), HB.out⟩
theorem meets_one {w : World} {pa : Option Addr} {pc : Nat} {ca : Option Addr} {cc : Nat} {ra : Option Addr} {rc : Nat} {a : At} {b c : Nat} {v : Value} {y : Bool} (h0 : w.cell? ⟨b, 0, none⟩ = some v) (h1 : RuleIs w v (atV pa pc ca cc ra rc a) y) :
    Calls Try.prog 38 #[atV pa pc ca cc ra rc a, .slice (some ⟨b, 0, none⟩) 1 c] w fun e w' => e = .returned (.bool y) ∧ Below w.heap.size w w' := by
  refine (meets_at a.origin pa _ pc a.next a.med a.pref ca _ cc ra _ rc b 1 c (fun _ => y) w (by omega) (fun i hi => ?_)).mono ?_
  · obtain rfl : i = 0 := by omega
    exact ⟨v, h0, h1⟩
  · rintro e w' ⟨he, hb⟩
    exact ⟨by rw [he]; exact ret_bool (by simp [allUp]), hb⟩
theorem meets_two {w : World} {pa : Option Addr} {pc : Nat} {ca : Option Addr} {cc : Nat} {ra : Option Addr} {rc : Nat} {a : At} {b c : Nat} {v v' : Value} {y y' : Bool} (h0 : w.cell? ⟨b, 0, none⟩ = some v) (h1 : RuleIs w v (atV pa pc ca cc ra rc a) y) (h2 : w.cell? ⟨b, 1, none⟩ = some v') (h3 : RuleIs w v' (atV pa pc ca cc ra rc a) y') :
    Calls Try.prog 38 #[atV pa pc ca cc ra rc a, .slice (some ⟨b, 0, none⟩) 2 c] w fun e w' => e = .returned (.bool (y && y')) ∧ Below w.heap.size w w' := by
  refine (meets_at a.origin pa _ pc a.next a.med a.pref ca _ cc ra _ rc b 2 c (fun i => if i = 0 then y else y') w (by omega) (fun i hi => ?_)).mono ?_
  · match i, hi with
    | 0, _ => exact ⟨v, h0, h1⟩
    | 1, _ => exact ⟨v', h2, h3⟩
  · rintro e w' ⟨he, hb⟩
    exact ⟨by rw [he]; exact ret_bool (by simp [allUp]), hb⟩
end Go.Proofs.Ytolpaimmmhoiiaa
