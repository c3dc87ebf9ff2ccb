/- The document's NewDisk. -/
import Derived.Test.YtbecchoidglaeaaGRDisk
namespace Go.Proofs.Ytbecchoidglaeaa
open Go.RowKit
set_option maxRecDepth 100000

theorem Try.info37 : (Try.prog.info? 37).map (fun i => (i.zero, i.size, i.bytes)) = some (some (.slice none 0 0), 1, 24) := by kernel_rfl
theorem RefIn.addPage {w w1 : World} {V k : Nat} {sv sv1 v : Value} {pgs : List Value} {P : Nat → Prop} (h : RefIn w V sv (.slice none 0 0) pgs [] P (St.made k)) (hk1 : k < 1024) {F : Nat → Prop} (hk : Keeps F w w1)
    (hF : ∀ b, b < w.heap.size → F b → sv.ownBlock = some b) (b0 : Nat) (hb0 : w.heap.size ≤ b0) (hown : w1.ownsRow 0 37 1 sv1 (k + 1) (pgs ++ [v]))
    (hv : ∀ b, sv1.ownBlock = some b → sv.ownBlock = some b ∨ w.heap.size ≤ b) (hne : sv1.ownBlock ≠ some b0) (hp : PageAt w1 (fun b => b = b0) v (fun _ => 0)) (hlt : b0 < w1.heap.size) :
    RefIn (w1.setCell ⟨V, 0, none⟩ sv1) V sv1 (.slice none 0 0) (pgs ++ [v]) [] (fun b => P b ∨ b = b0) (St.made (k + 1)) := by
  have nV : ¬ F V := fun hf => h.sV (hF V h.lt hf)
  have nP : ∀ b, P b → ¬ F b := fun b e hf => h.ps b (hF b (h.plt b e) hf) e
  have hVlt := h.lt
  have hb1 := h.block
  rw [← hk.block V h.lt nV] at hb1
  have hks : Keeps (fun b => b = V) w1 (w1.setCell ⟨V, 0, none⟩ sv1) := (Keeps.refl _ _).setCell V 0 _ (.inl rfl)
  have s1V : sv1.ownBlock ≠ some V := fun e => by rcases hv V e with h1 | h1; exact h.sV h1; omega
  have hPV : ∀ b, (P b ∨ b = b0) → ¬ b = V := fun b hb e => by
    subst e
    rcases hb with hb | hb
    · exact h.pV hb
    · omega
  have hlen : pgs.length = k := by have := h.so.1; simp [St.made] at this; exact this
  exact {
    block := heap_set_at w1 V 0 _ _ _ sv1 hb1
    so := own_keeps hown hks (fun g e e2 => by subst e2; exact s1V e)
    lo := ⟨rfl, .inl ⟨rfl, rfl⟩⟩
    pg := fun i hi => by
      by_cases e : i < k
      · obtain ⟨u, hu, hpu⟩ := h.pg i e
        exact ⟨u, by rw [List.getElem?_append_left (by omega)]; exact hu, ((hpu.keeps hk nP).mono (fun b hb => .inl hb)).keeps hks hPV⟩
      · have : i = k := by have : i < k + 1 := hi; omega
        subst this
        exact ⟨v, by rw [List.getElem?_append_right (by omega), hlen]; simp, (hp.mono (fun b hb => .inr hb)).keeps hks hPV⟩
    lp := fun k x hx => by simp [St.made] at hx
    sV := s1V
    lV := by simp [Value.ownBlock]
    sl := fun b e => by simp [Value.ownBlock]
    pV := fun e => hPV V e rfl
    ps := fun b e hb => by
      rcases hb with hb | hb
      · have := h.plt b hb
        rcases hv b e with h1 | h1
        · exact h.ps b h1 hb
        · omega
      · subst hb; exact hne e
    pl := fun b e => by simp [Value.ownBlock] at e
    plt := fun b hb => by
      have := hks.size
      rcases hb with hb | hb
      · have := h.plt b hb; have := hk.size; omega
      · omega
    nn := by show k + 1 ≤ 1024; omega
    ats := fun x hx => by simp [St.made] at hx
    many := by simp [St.made]
    small := by simp [St.made] }
theorem rnew_start (w : World) : RefIn (w.alloc (.cells #[.slice none 0 0, .slice none 0 0, .int .i64 (-1), .bool false] 45)) w.heap.size (.slice none 0 0) (.slice none 0 0) [] [] (fun _ => False) (St.made 0) where
  block := heap_alloc_last w _
  so := ⟨rfl, .inl ⟨rfl, rfl⟩⟩
  lo := ⟨rfl, .inl ⟨rfl, rfl⟩⟩
  pg := fun i hi => by simp [St.made] at hi
  lp := fun k x hx => by simp [St.made] at hx
  sV := by simp [Value.ownBlock]
  lV := by simp [Value.ownBlock]
  sl := fun b e => by simp [Value.ownBlock]
  pV := fun h => h
  ps := fun b e h => h
  pl := fun b e h => h
  plt := fun b h => h.elim
  nn := by simp [St.made]
  ats := fun x hx => by simp [St.made] at hx
  many := by simp [St.made]
  small := by simp [St.made]
/-- What holds when k pages are there. -/
def NewAt (w wq : World) (V k : Nat) : Prop :=
  ∃ sv pgs P, RefIn wq V sv (.slice none 0 0) pgs [] P (St.made k) ∧ (∀ b, rfoot V sv (.slice none 0 0) b ∨ P b → w.heap.size ≤ b) ∧ Below w.heap.size w wq

theorem cell_grown2 {Y w2 : World} {o o2 : Obj} {row : Option Nat} {D k : Nat} {v : Value} (hg : ((Y.alloc o).alloc o2).drew.grownBy w2 row) (hD : D < Y.heap.size) (hne : row ≠ some D) (hc : Y.cell? ⟨D, k, none⟩ = some v) : w2.cell? ⟨D, k, none⟩ = some v :=
  cell_grown (Y := Y.alloc o) hg rfl (by simp; omega) hne ((World.cell?_alloc_lt Y o ⟨D, k, none⟩ hD).trans hc)
theorem frozen_grown2 {Y w2 : World} {o o2 : Obj} {row : Option Nat} {D k : Nat} (hg : ((Y.alloc o).alloc o2).drew.grownBy w2 row) (hD : D < Y.heap.size) (hne : row ≠ some D) (hc : Y.frozen? ⟨D, k, none⟩ = false) : w2.frozen? ⟨D, k, none⟩ = false :=
  frozen_grown (Y := Y.alloc o) hg rfl (by simp; omega) hne ((World.frozen?_alloc_past _ _ _ hD).trans hc)
theorem newAt_step {w Y w2 : World} {k gg cp : Nat} {sv : Value} {pgs : List Value} {P : Nat → Prop} {o : Obj} (h : RefIn Y w.heap.size sv (.slice none 0 0) pgs [] P (St.made k)) (hk1 : k < 1024)
    (hf : ∀ b, rfoot w.heap.size sv (.slice none 0 0) b ∨ P b → w.heap.size ≤ b) (hb : Below w.heap.size w Y)
    (hg : ((Y.alloc (.cells (valsOf (fun _ => 0) 64).toArray 5)).alloc o).drew.grownBy w2 sv.ownBlock)
    (hown : w2.ownsRow 0 37 1 (.slice (some ⟨gg, 0, none⟩) (k + 1) cp) (k + 1) (pgs ++ [.slice (some ⟨Y.heap.size, 0, none⟩) 64 64])) (hat : sv.ownBlock = some gg ∨ gg = Y.heap.size + 1 + 1) :
    NewAt w (w2.setCell ⟨w.heap.size, 0, none⟩ (.slice (some ⟨gg, 0, none⟩) (k + 1) cp)) w.heap.size (k + 1) := by
  have k1 : Keeps (fun b => sv.ownBlock = some b) Y w2 := ((((Keeps.refl _ Y).alloc _).alloc o).drew).grown hg (fun b e => .inl e)
  have hlt := h.lt
  have hsz : Y.heap.size + 1 + 1 ≤ w2.heap.size := by have := hg.size; simpa using this
  have hne : (Value.slice (some ⟨gg, 0, none⟩) (k + 1) cp).ownBlock ≠ some Y.heap.size := fun e => by
    simp [Value.ownBlock] at e
    subst e
    rcases hat with h1 | h1
    · have := ownBlock_lt h.so _ h1; omega
    · omega
  have hv : ∀ b, (Value.slice (some ⟨gg, 0, none⟩) (k + 1) cp).ownBlock = some b → sv.ownBlock = some b ∨ Y.heap.size ≤ b := fun b e => by
    simp [Value.ownBlock] at e
    subst e
    rcases hat with h1 | h1
    · exact .inl h1
    · exact .inr (by omega)
  have hp : PageAt w2 (fun b => b = Y.heap.size) (.slice (some ⟨Y.heap.size, 0, none⟩) 64 64) (fun _ => 0) := by
    refine ⟨Y.heap.size, 0, 64, rfl, Nat.le_refl _, rfl, fun j hj => ?_⟩
    have hc := (rw_new Y (fun _ => 0) 64 (by omega) 5).2 (by omega)
    obtain ⟨b', off', e, hf⟩ := hc
    injection e with e
    injection e with e1 e2 _
    subst e1 e2
    have hrow : sv.ownBlock ≠ some Y.heap.size := fun e => by have := ownBlock_lt h.so _ e; omega
    exact cell_grown hg rfl (by simp) hrow (hf j hj)
  refine ⟨_, _, _, h.addPage hk1 k1 (fun b _ e => e) Y.heap.size (Nat.le_refl _) hown hv hne hp (by omega), fun b hb2 => ?_, ?_⟩
  · have hbs := hb.size
    rcases hb2 with (rfl | hb2 | hb2) | hb2 | hb2
    · exact Nat.le_refl _
    · rcases hv b hb2 with h1 | h1
      · exact hf b (.inl (.inr (.inl h1)))
      · omega
    · simp [Value.ownBlock] at hb2
    · exact hf b (.inr hb2)
    · omega
  · have k2 : Keeps (fun b => w.heap.size ≤ b) Y (w2.setCell ⟨w.heap.size, 0, none⟩ (.slice (some ⟨gg, 0, none⟩) (k + 1) cp)) :=
      (k1.mono (fun b _ e => hf b (.inl (.inr (.inl e))))).setCell _ _ _ (.inl (Nat.le_refl _))
    exact hb.trans (k2.below _ hb.size (fun b hb => hb))

section
variable {P : Program} {a : Act} {w w' : World} {K : Act → World → Prop} {Q : Exit → Act → World → Prop} {dst : Option Tmp} {ty : TypeId} {pos : String} {after : Array Edge} {gd : Option (Nat × Bool)}
theorem kept_append_rows (x y : Operand) : Oper.wp P { dst := dst, op := .call { callee := .builtin .append, args := #[x, y], argTypes := #[29, 29] }, type := ty, pos := pos, after := after, guard := gd } a w K Q = Kept P { dst := dst, op := .call { callee := .builtin .append, args := #[x, y], argTypes := #[29, 29] }, type := ty, pos := pos, after := after, guard := gd } a w K Q := rfl
end
attribute [local go_sem ↓] Go.wp_at_zero Go.wp_at_succ kept_append_rows
set_option maxRecDepth 100000 in
set_option maxHeartbeats 1600000 in
theorem rnew_mid (m : Nat) (hm : m ≤ 1024) (w : World) : Calls Try.prog 11 #[.int .i64 (m : Int)] w fun e w' =>
    ∃ V W P, e = .returned (.pointer (some ⟨V, 0, none⟩)) ∧ RDisk w' V (St.made m) W P ∧ (∀ b, W b ∨ P b → w.heap.size ≤ b) ∧ Below w.heap.size w w' := by
  have hmk : ∀ w, (Instr.makeSlice 37 (.int .i64 64) (.int .i64 64)).run Try.prog w = .ok (.slice (some ⟨w.heap.size, 0, none⟩) 64 64) (w.alloc (.cells (valsOf (fun _ => 0) 64).toArray 5)) := fun w => run_make_bytes 64 (by omega) w
  go_enter Try.func11, Try.ntmps11
  go_wp2
  have H0 : Hid (NewAt w (w.alloc (.cells #[.slice none 0 0, .slice none 0 0, .int .i64 (-1), .bool false] 45)) w.heap.size 0) :=
    ⟨_, _, _, rnew_start w, fun b hb => by rcases hb with (rfl | hb | hb) | hb; omega; simp [Value.ownBlock] at hb; simp [Value.ownBlock] at hb; exact hb.elim, (Below.refl _ _).alloc (Nat.le_refl _) _⟩
  go_loopw [4] (fun i wq => ∃ k : Nat, k ≤ m ∧ i = .int .i64 k ∧ NewAt w wq w.heap.size k) (fun i _ => m - (intOf i).toNat)
  case atStart => exact ⟨0, Nat.zero_le _, rfl, H0.out⟩
  case round =>
    clear H0
    obtain ⟨k, hk, rfl, sv, pgs, P, hd, hf, hb⟩ := hrel
    by_cases hlt : k < m
    · have c0 := hd.c0
      have f0 := hd.fz 0
      have hV := hd.lt
      have hsV := hd.sV
      have HD := hide hd
      have HF := hide hf
      have HB := hide hb
      have ho := hd.so
      obtain ⟨i0, hi0', hz0, hz1, hz2⟩ := info_parts Try.info37
      have HI := hide hi0'
      have HZ := hide (And.intro hz0 (And.intro hz1 hz2))
      clear hd hf hb hi0' hz0 hz1 hz2
      go_wp2_with fail
      go_region_with (first
        | ((unfold Kept; refine wp_append_lies _ _ _ _ (by rfl) 0 37 i0 _ 1 24 Try.underlying29 HI.out HZ.out.1 HZ.out.2.1 HZ.out.2.2 rfl (by omega) sv k pgs (by rfl) (((ho.alloc _).alloc _).drew) ⟨wr.heap.size + 1, 0, none⟩ 1 1 [.slice (some ⟨wr.heap.size, 0, none⟩) 64 64] (by rfl) rfl (World.news_of_block (cs := #[.slice (some ⟨wr.heap.size, 0, none⟩) 64 64]) (t := 37) (fr := (0, 0)) (by have := heap_alloc_new (wr.alloc (.cells (valsOf (fun _ => 0) 64).toArray 5)) (.cells #[.slice (some ⟨wr.heap.size, 0, none⟩) 64 64] 37); rw [World.size_alloc] at this; exact this)) (by simp [Value.oneCell']) (by omega) (by unfold maxLen; omega) (by omega) (by omega) (wr.heap.size + 1 + 1) (by simp) ?_; intro gg cp w2 hown2 hgrow hat hlt2; have q0 := cell_grown2 hgrow hV hsV c0; have g0 := frozen_grown2 hgrow hV hsV f0)))
      all_goals (go_wp2; exact ⟨⟨k + 1, by omega, by go_num, newAt_step HD.out (by omega) HF.out HB.out hgrow hown2 hat⟩, by simp [intOf]; omega⟩)
    · have hkm : k = m := by omega
      subst hkm
      have HD := hide hd
      have HF := hide hf
      have HB := hide hb
      clear hd hf hb
      go_wp2
      go_ret
      exact ⟨_, _, P, rfl, ⟨_, _, _, _, HD.out, rfl⟩, HF.out, HB.out⟩
set_option maxRecDepth 100000 in
set_option maxHeartbeats 1600000 in
theorem rnew_big (n : Int) (hn : 1024 < n) (w : World) : Calls Try.prog 11 #[.int .i64 n] w fun e w' =>
    ∃ V W P, e = .returned (.pointer (some ⟨V, 0, none⟩)) ∧ RDisk w' V (St.made 1024) W P ∧ (∀ b, W b ∨ P b → w.heap.size ≤ b) ∧ Below w.heap.size w w' := by
  have hmk : ∀ w, (Instr.makeSlice 37 (.int .i64 64) (.int .i64 64)).run Try.prog w = .ok (.slice (some ⟨w.heap.size, 0, none⟩) 64 64) (w.alloc (.cells (valsOf (fun _ => 0) 64).toArray 5)) := fun w => run_make_bytes 64 (by omega) w
  go_enter Try.func11, Try.ntmps11
  go_wp2
  have H0 : Hid (NewAt w (w.alloc (.cells #[.slice none 0 0, .slice none 0 0, .int .i64 (-1), .bool false] 45)) w.heap.size 0) :=
    ⟨_, _, _, rnew_start w, fun b hb => by rcases hb with (rfl | hb | hb) | hb; omega; simp [Value.ownBlock] at hb; simp [Value.ownBlock] at hb; exact hb.elim, (Below.refl _ _).alloc (Nat.le_refl _) _⟩
  go_loopw [4] (fun i wq => ∃ k : Nat, k ≤ 1024 ∧ i = .int .i64 k ∧ NewAt w wq w.heap.size k) (fun i _ => 1024 - (intOf i).toNat)
  case atStart => exact ⟨0, Nat.zero_le _, rfl, H0.out⟩
  case round =>
    clear H0
    obtain ⟨k, hk, rfl, sv, pgs, P, hd, hf, hb⟩ := hrel
    by_cases hlt : k < 1024
    · have c0 := hd.c0
      have f0 := hd.fz 0
      have hV := hd.lt
      have hsV := hd.sV
      have HD := hide hd
      have HF := hide hf
      have HB := hide hb
      have ho := hd.so
      obtain ⟨i0, hi0', hz0, hz1, hz2⟩ := info_parts Try.info37
      have HI := hide hi0'
      have HZ := hide (And.intro hz0 (And.intro hz1 hz2))
      clear hd hf hb hi0' hz0 hz1 hz2
      go_wp2_with fail
      go_region_with (first
        | ((unfold Kept; refine wp_append_lies _ _ _ _ (by rfl) 0 37 i0 _ 1 24 Try.underlying29 HI.out HZ.out.1 HZ.out.2.1 HZ.out.2.2 rfl (by omega) sv k pgs (by rfl) (((ho.alloc _).alloc _).drew) ⟨wr.heap.size + 1, 0, none⟩ 1 1 [.slice (some ⟨wr.heap.size, 0, none⟩) 64 64] (by rfl) rfl (World.news_of_block (cs := #[.slice (some ⟨wr.heap.size, 0, none⟩) 64 64]) (t := 37) (fr := (0, 0)) (by have := heap_alloc_new (wr.alloc (.cells (valsOf (fun _ => 0) 64).toArray 5)) (.cells #[.slice (some ⟨wr.heap.size, 0, none⟩) 64 64] 37); rw [World.size_alloc] at this; exact this)) (by simp [Value.oneCell']) (by omega) (by unfold maxLen; omega) (by omega) (by omega) (wr.heap.size + 1 + 1) (by simp) ?_; intro gg cp w2 hown2 hgrow hat hlt2; have q0 := cell_grown2 hgrow hV hsV c0; have g0 := frozen_grown2 hgrow hV hsV f0)))
      all_goals (go_wp2; exact ⟨⟨k + 1, by omega, by go_num, newAt_step HD.out (by omega) HF.out HB.out hgrow hown2 hat⟩, by simp [intOf]; omega⟩)
    · have hkm : k = 1024 := by omega
      subst hkm
      have HD := hide hd
      have HF := hide hf
      have HB := hide hb
      clear hd hf hb
      go_wp2
      go_ret
      exact ⟨_, _, P, rfl, ⟨_, _, _, _, HD.out, rfl⟩, HF.out, HB.out⟩
set_option maxRecDepth 100000 in
set_option maxHeartbeats 1600000 in
theorem rnew_low (n : Int) (hn : n < 0) (w : World) : Calls Try.prog 11 #[.int .i64 n] w fun e w' =>
    ∃ V W P, e = .returned (.pointer (some ⟨V, 0, none⟩)) ∧ RDisk w' V (St.made 0) W P ∧ (∀ b, W b ∨ P b → w.heap.size ≤ b) ∧ Below w.heap.size w w' := by
  go_enter Try.func11, Try.ntmps11
  go_wp2
  have H0 : Hid (NewAt w (w.alloc (.cells #[.slice none 0 0, .slice none 0 0, .int .i64 (-1), .bool false] 45)) w.heap.size 0) :=
    ⟨_, _, _, rnew_start w, fun b hb => by rcases hb with (rfl | hb | hb) | hb; omega; simp [Value.ownBlock] at hb; simp [Value.ownBlock] at hb; exact hb.elim, (Below.refl _ _).alloc (Nat.le_refl _) _⟩
  go_loopw [4] (fun i wq => ∃ k : Nat, k ≤ 0 ∧ i = .int .i64 k ∧ NewAt w wq w.heap.size k) (fun i _ => 0 - (intOf i).toNat)
  case atStart => exact ⟨0, Nat.zero_le _, rfl, H0.out⟩
  case round =>
    clear H0
    obtain ⟨k, hk, rfl, sv, pgs, P, hd, hf, hb⟩ := hrel
    obtain rfl : k = 0 := by omega
    have HD := hide hd
    have HF := hide hf
    have HB := hide hb
    clear hd hf hb
    go_wp2
    go_ret
    exact ⟨_, _, P, rfl, ⟨_, _, _, _, HD.out, rfl⟩, HF.out, HB.out⟩
theorem rnew_any (n : Int) (w : World) : Calls Try.prog 11 #[.int .i64 n] w fun e w' =>
    ∃ V W P, e = .returned (.pointer (some ⟨V, 0, none⟩)) ∧ RDisk w' V (St.made (clamp n 1024).toNat) W P ∧ (∀ b, W b ∨ P b → w.heap.size ≤ b) ∧ Below w.heap.size w w' := by
  by_cases h0 : n < 0
  · rw [show (clamp n 1024).toNat = 0 from by unfold clamp; omega]
    exact rnew_low n h0 w
  · by_cases h1 : 1024 < n
    · rw [show (clamp n 1024).toNat = 1024 from by unfold clamp; omega]
      exact rnew_big n h1 w
    · obtain ⟨m, rfl⟩ := Int.eq_ofNat_of_zero_le (show 0 ≤ n by omega)
      rw [show (clamp (m : Int) 1024).toNat = m from by unfold clamp; omega]
      exact rnew_mid m (by omega) w
end Go.Proofs.Ytbecchoidglaeaa
