/- The document's Write. -/
import Derived.Test.YtbecchoidglaeaaRNew
namespace Go.Proofs.Ytbecchoidglaeaa
open Go.RowKit
set_option maxRecDepth 100000

set_option maxRecDepth 100000 in
set_option maxHeartbeats 400000 in
theorem fill_eq (a : Option Addr) (len cap : Nat) (f : Nat → Nat) (w : World) (hl : len ≤ 64) (h : Rw w a len f) :
    Calls Try.prog 58 #[.slice a len cap] w fun e w' => e = .returned (.slice (some ⟨w.heap.size, 0, none⟩) 64 64) ∧ w' = w.alloc (.cells (valsOf (fill f len) 64).toArray 5) := by
  have hmk : ∀ w, (Instr.makeSlice 37 (.int .i64 64) (.int .i64 64)).run Try.prog w = .ok (.slice (some ⟨w.heap.size, 0, none⟩) 64 64) (w.alloc (.cells (valsOf (fun _ => 0) 64).toArray 5)) := fun w => run_make_bytes 64 (by omega) w
  have H := hide h
  clear h
  go_enter Try.func58, Try.ntmps58
  go_wp2_with ((with_reducible refine wpl_copy _ _ 37 37 (.slice (some ⟨w.heap.size, 0, none⟩) 64 64) (.slice a len cap) _ ?_ ?_ (run_copy_new w 64 a len cap f _ hl H.out) ?_); (· rfl); (· rfl))
  go_ret
  exact ⟨rfl, rfl⟩
theorem Rw.drew {w : World} {a : Option Addr} {len : Nat} {f : Nat → Nat} (h : Rw w a len f) : Rw w.drew a len f := h.keeps (F := fun _ => False) (Keeps.refl _ _).drew (fun _ _ _ h => h)
theorem Try.infoRW : (Try.prog.info? 98).map (fun i => (i.zero, i.size, i.bytes)) = some (some (.agg #[.int .i64 0, .slice none 0 0]), 2, 32) := by kernel_rfl

section
variable {w : World} {V : Nat} {sv lv : Value} {pgs : List Value} {lps : List (Nat × Value)} {P : Nat → Prop} {s : St}
theorem St.fz_of_power (h : s.power = true) : s.down = false ∧ ((s.fused = false ∧ s.fz = -1 ∧ s.spent = s) ∨ (s.fused = true ∧ 0 < s.left ∧ s.fz = (s.left : Int) ∧ s.spent.fz = (s.left : Int) - 1 ∧ s.spent.down = false)) := by
  obtain ⟨n, now, lasts, lo, fused, left, down⟩ := s
  cases down <;> cases fused
  · refine ⟨rfl, .inl ⟨rfl, rfl, ?_⟩⟩
    simp [St.spent, St.power]
  · have h0 : left ≠ 0 := by simpa [St.power] using h
    refine ⟨rfl, .inr ⟨rfl, by show 0 < left; omega, rfl, ?_, ?_⟩⟩
    · simp [St.spent, St.power, St.fz, h0]; omega
    · simp [St.spent, St.power, h0]
  · simp [St.power] at h
  · simp [St.power] at h
theorem St.fz_of_down (h : s.power = false) : (s.down = true ∨ (s.down = false ∧ s.fz = 0)) ∧ s.spent.fz = s.fz ∧ s.spent.down = true := by
  obtain ⟨n, now, lasts, lo, fused, left, down⟩ := s
  cases down <;> cases fused
  · simp [St.power] at h
  · have h0 : left = 0 := by simpa [St.power] using h
    subst h0
    exact ⟨.inr ⟨rfl, rfl⟩, rfl, rfl⟩
  · exact ⟨.inl rfl, rfl, rfl⟩
  · exact ⟨.inl rfl, rfl, rfl⟩
theorem St.spent_left (s : St) : s.spent.left ≤ s.left := by
  unfold St.spent
  simp only
  split <;> omega

set_option maxHeartbeats 400000 in
theorem rwrite_bad (h : RefIn w V sv lv pgs lps P s) (i : Int) (a : Option Addr) (len cap : Nat) (hb : ¬ (0 ≤ i ∧ i < s.n) ∨ 64 < len) :
    Calls Try.prog 43 #[.pointer (some ⟨V, 0, none⟩), .int .i64 i, .slice a len cap] w fun e w' => e = .returned (.int .i64 1) ∧ w' = w := by
  obtain ⟨sa, sc, hsv, _⟩ := h.sform
  have c0 := h.c0
  rw [hsv] at c0
  clear h hsv
  by_cases h0 : i < 0
  · clear hb
    go_enter Try.func43, Try.ntmps43
    go_wp2
    go_ret
    exact ⟨rfl, rfl⟩
  · by_cases h1 : i < s.n
    · have hl : 64 < len := by rcases hb with hb | hb; exact absurd ⟨by omega, h1⟩ hb; exact hb
      clear hb
      go_enter Try.func43, Try.ntmps43
      go_wp2
      go_ret
      exact ⟨rfl, rfl⟩
    · clear hb
      go_enter Try.func43, Try.ntmps43
      go_wp2
      go_ret
      exact ⟨rfl, rfl⟩
theorem RefIn.downSet (h : RefIn w V sv lv pgs lps P s) (hp : s.power = false) : RefIn (w.setCell ⟨V, 3, none⟩ (.bool true)) V sv lv pgs lps P s.spent := by
  have hs := St.fz_of_down hp
  have hb := heap_set_at w V 3 _ _ _ (.bool true) h.block
  refine h.fuseSet s.spent rfl rfl rfl (by have := s.spent_left; have := h.small; omega) _ ((Keeps.refl _ _).setCell V 3 _ (.inl rfl)) ?_
  rw [hs.2.1, hs.2.2]
  exact hb
set_option maxHeartbeats 400000 in
theorem rwrite_down (h : RefIn w V sv lv pgs lps P s) (i : Nat) (hi : i < s.n) (a : Option Addr) (len cap : Nat) (hl : len ≤ 64) (hp : s.power = false) :
    Calls Try.prog 43 #[.pointer (some ⟨V, 0, none⟩), .int .i64 (i : Int), .slice a len cap] w fun e w' => e = .returned (.int .i64 4) ∧ RefIn w' V sv lv pgs lps P s.spent ∧ Keeps (fun b => b = V) w w' := by
  obtain ⟨sa, sc, hsv, _⟩ := h.sform
  have c0 := h.c0
  rw [hsv] at c0
  have c2 := h.c2
  have c3 := h.c3
  have f3 := h.fz 3
  have hs := St.fz_of_down hp
  have HD := hide (h.downSet hp)
  clear h hsv hp
  rcases hs.1 with h1 | ⟨h1, h2⟩
  · rw [h1] at c3
    clear hs h1
    go_enter Try.func43, Try.ntmps43
    go_wp2
    go_ret
    exact ⟨rfl, HD.out, (Keeps.refl _ _).setCell V 3 _ (.inl rfl)⟩
  · rw [h1] at c3
    rw [h2] at c2
    clear hs h1 h2
    go_enter Try.func43, Try.ntmps43
    go_wp2
    go_ret
    exact ⟨rfl, HD.out, (Keeps.refl _ _).setCell V 3 _ (.inl rfl)⟩
end
theorem rwrite_fin {w0 Y w2 : World} {V : Nat} {sv lv : Value} {pgs : List Value} {lps : List (Nat × Value)} {P : Nat → Prop} {s : St} (h : RefIn Y V sv lv pgs lps P s) (hk : Keeps (fun b => b = V) w0 Y) (hm : s.lo.length < 1000000) (i : Nat) (hi : i < s.n) (p : Nat → Nat) {o : Obj}
    (hg : ((Y.alloc (.cells (valsOf p 64).toArray 5)).alloc o).drew.grownBy w2 lv.ownBlock) {gg cp : Nat}
    (hown : w2.ownsRow 0 98 2 (.slice (some ⟨gg, 0, none⟩) (s.lo.length + 1) cp) (s.lo.length + 1) (rws lps ++ [.int .i64 (i : Int), .slice (some ⟨Y.heap.size, 0, none⟩) 64 64])) (hat : lv.ownBlock = some gg ∨ gg = Y.heap.size + 1 + 1) :
    ∃ W' P', RDisk (w2.setCell ⟨V, 1, none⟩ (.slice (some ⟨gg, 0, none⟩) (s.lo.length + 1) cp)) V { s with lo := s.lo ++ [(i, p)] } W' P' ∧
      RStep (rfoot V sv lv) P W' P' w0 (w2.setCell ⟨V, 1, none⟩ (.slice (some ⟨gg, 0, none⟩) (s.lo.length + 1) cp)) := by
  have k1 : Keeps (fun b => lv.ownBlock = some b) Y w2 := ((((Keeps.refl _ Y).alloc _).alloc o).drew).grown hg (fun b e => .inl e)
  have hsz : Y.heap.size + 1 + 1 ≤ w2.heap.size := by have := hg.size; simpa using this
  have hsz0 := hk.size
  have hlen : lps.length = s.lo.length := by have := h.lo.1; rw [rws_length] at this; omega
  have hv : ∀ b, (Value.slice (some ⟨gg, 0, none⟩) (s.lo.length + 1) cp).ownBlock = some b → lv.ownBlock = some b ∨ (Y.heap.size ≤ b ∧ b ≠ Y.heap.size) := fun b e => by
    simp [Value.ownBlock] at e
    subst e
    rcases hat with h1 | h1
    · exact .inl h1
    · exact .inr (by omega)
  have hp : PageAt w2 (fun b => P b ∨ b = Y.heap.size) (.slice (some ⟨Y.heap.size, 0, none⟩) 64 64) p := by
    refine ⟨Y.heap.size, 0, 64, rfl, Nat.le_refl _, .inr rfl, fun j hj => ?_⟩
    obtain ⟨b', off', e, hf⟩ := (rw_new Y p 64 (by omega) 5).2 (by omega)
    injection e with e
    injection e with e1 e2 _
    subst e1 e2
    have hrow : lv.ownBlock ≠ some Y.heap.size := fun e => by have := ownBlock_lt h.lo _ e; omega
    exact cell_grown hg rfl (by simp) hrow (hf j hj)
  refine ⟨_, fun b => P b ∨ b = Y.heap.size, ⟨sv, _, pgs, lps ++ [(i, .slice (some ⟨Y.heap.size, 0, none⟩) 64 64)], h.turnLoose k1 (fun b _ e => e) (s.lo ++ [(i, p)]) (by rw [rws_snoc, List.length_append]; exact hown) (fun b e => ?_) (fun b hb => .inl hb) (fun b hb => ?_) (fun b hb => ?_) (fun b hb e => ?_) (fun k x hx => ?_) (fun y hy => ?_) (by simp; omega), rfl⟩, ?_, fun b hb => ?_, fun b hb => ?_⟩
  · rcases hv b e with h1 | h1
    · exact .inl h1
    · exact .inr h1.1
  · rcases hb with hb | hb
    · have := h.plt b hb; omega
    · omega
  · rcases hb with hb | hb
    · exact .inl hb
    · exact .inr (by omega)
  · rcases hv b e with h1 | h1
    · rcases hb with hb | hb
      · exact h.pl b h1 hb
      · have := ownBlock_lt h.lo b h1; omega
    · rcases hb with hb | hb
      · have := h.plt b hb; omega
      · exact h1.2 hb
  · by_cases hlt : k < s.lo.length
    · rw [List.getElem?_append_left hlt] at hx
      obtain ⟨u, e, hu⟩ := h.lp k x hx
      exact ⟨u, by rw [List.getElem?_append_left (by omega)]; exact e, (hu.keeps k1 (fun b hb e => h.pl b e hb)).mono (fun b hb => .inl hb)⟩
    · rw [List.getElem?_append_right (by omega)] at hx
      have hk0 : k - s.lo.length = 0 := by
        rcases Nat.eq_zero_or_pos (k - s.lo.length) with h0 | h0
        · exact h0
        · rw [List.getElem?_eq_none (by simp; omega)] at hx; cases hx
      rw [hk0] at hx
      simp at hx
      subst hx
      exact ⟨_, by rw [List.getElem?_append_right (by omega), hlen, hk0]; rfl, hp⟩
  · rcases List.mem_append.1 hy with hy | hy
    · exact h.ats y hy
    · simp at hy; subst hy; exact hi
  · refine Keeps.setCell ?_ V 1 _ (.inl (.inl rfl))
    exact Keeps.trans (hk.mono (fun b _ e => .inl e)) k1 (fun b _ e => .inr (.inr e))
  · rcases hb with hb | hb | hb
    · exact .inl (.inl hb)
    · exact .inl (.inr (.inl hb))
    · rcases hv b hb with h1 | h1
      · exact .inl (.inr (.inr h1))
      · exact .inr (by omega)
  · rcases hb with hb | hb
    · exact .inl hb
    · exact .inr (by omega)

section
variable {P : Program} {a : Act} {w w' : World} {K : Act → World → Prop} {Q : Exit → Act → World → Prop} {dst : Option Tmp} {ty : TypeId} {pos : String} {after : Array Edge} {gd : Option (Nat × Bool)}
theorem kept_append_rw (x y : Operand) : Oper.wp P { dst := dst, op := .call { callee := .builtin .append, args := #[x, y], argTypes := #[43, 43] }, type := ty, pos := pos, after := after, guard := gd } a w K Q = Kept P { dst := dst, op := .call { callee := .builtin .append, args := #[x, y], argTypes := #[43, 43] }, type := ty, pos := pos, after := after, guard := gd } a w K Q := rfl
end
attribute [local go_sem ↓] Go.wp_at_zero Go.wp_at_succ kept_append_rw
set_option maxRecDepth 100000 in
set_option maxHeartbeats 1600000 in
theorem rwrite_in {w : World} {V : Nat} {sv lv : Value} {pgs : List Value} {lps : List (Nat × Value)} {P : Nat → Prop} {s : St} (h : RefIn w V sv lv pgs lps P s) (i : Nat) (hi : i < s.n) (a : Option Addr) (len cap : Nat) (f : Nat → Nat) (hl : len ≤ 64) (hp : s.power = true)
    (hm : s.lo.length < 1000000) (hr : Rw w a len f) (ha : ∀ x, a = some x → 0 < len → x.block ≠ V) :
    Calls Try.prog 43 #[.pointer (some ⟨V, 0, none⟩), .int .i64 (i : Int), .slice a len cap] w fun e w' =>
      e = .returned (.int .i64 0) ∧ ∃ W' P', RDisk w' V (s.spent.write i (fill f len)) W' P' ∧ RStep (rfoot V sv lv) P W' P' w w' := by
  obtain ⟨sa, sc, hsv, _⟩ := h.sform
  have c0 := h.c0
  rw [hsv] at c0
  have c1 := h.c1
  have f1 := h.fz 1
  have c2 := h.c2
  have c3 := h.c3
  have f2 := h.fz 2
  have hV := h.lt
  have hlV := h.lV
  have hs := St.fz_of_power hp
  rw [hs.1] at c3
  have hi0 : (0 : Int) ≤ (i : Int) := Int.natCast_nonneg _
  have hi1 : (i : Int) < (s.n : Int) := by omega
  obtain ⟨i0, hi0', hz0, hz1, hz2⟩ := info_parts Try.infoRW
  have HI := hide hi0'
  have HZ := hide (And.intro hz0 (And.intro hz1 hz2))
  have H := hide h
  have HR := hide hr
  have HA := hide ha
  clear h hr ha hsv hi0' hz0 hz1 hz2 hp
  rcases hs.2 with ⟨h1, h2, h3⟩ | ⟨h1, h2, h3, h4, h5⟩
  · rw [h2] at c2
    have HS := hide h3
    have ho := H.out.lo
    clear hs h1 h2 h3
    go_enter Try.func43, Try.ntmps43
    go_wp2_with fail
    go_region_with (first
      | ((unfold Kept; refine wp_append_lies _ _ _ _ (by rfl) 0 98 i0 _ 2 32 Try.underlying43 HI.out HZ.out.1 HZ.out.2.1 HZ.out.2.2 rfl (by omega) lv s.lo.length (rws lps) (by rfl) (((ho.alloc _).alloc _).drew) ⟨w.heap.size + 1, 0, none⟩ 1 1 [.int .i64 (i : Int), .slice (some ⟨w.heap.size, 0, none⟩) 64 64] (by rfl) rfl (World.news_of_block (cs := #[.int .i64 (i : Int), .slice (some ⟨w.heap.size, 0, none⟩) 64 64]) (t := 98) (fr := (0, 0)) (by have := heap_alloc_new (w.alloc (.cells (valsOf (fill f len) 64).toArray 5)) (.cells #[.int .i64 (i : Int), .slice (some ⟨w.heap.size, 0, none⟩) 64 64] 98); rw [World.size_alloc] at this; exact this)) (by simp [Value.oneCell']) (by omega) (by unfold maxLen; omega) (by omega) (by omega) (w.heap.size + 1 + 1) (by simp) ?_; intro gg cp w2 hown2 hgrow hat hlt2; have q1 := cell_grown2 hgrow hV hlV c1; have g1 := frozen_grown2 hgrow hV hlV f1))
      | ((refine (fill_eq a len cap f _ hl HR.out.drew).mono ?_; rintro e w9 ⟨rfl, rfl⟩)))
    all_goals (go_wp2; go_ret; refine ⟨rfl, ?_⟩; rw [HS.out]; obtain ⟨W', P', hd, hst⟩ := rwrite_fin H.out (Keeps.refl _ _) hm i hi (fill f len) hgrow hown2 hat; exact ⟨W', P', hd.nowly _, hst⟩)
  · rw [h3] at c2
    have HS : Hid (s.spent.fz = (s.left : Int) - 1 ∧ s.spent.down = false) := ⟨h4, h5⟩
    have HD0 := hide hs.1
    have hsm : s.left < 9223372036854775808 := H.out.small
    have hl0 : (0 : Int) < (s.left : Int) := by omega
    clear hs h1 h3 h4 h5
    go_enter Try.func43, Try.ntmps43
    go_wp2_with fail
    have XD : Hid (RefIn (w.setCell ⟨V, 2, none⟩ (.int .i64 ((s.left : Int) - 1))) V sv lv pgs lps P s.spent) := by
      have hb := heap_set_at w V 2 _ _ _ (.int .i64 ((s.left : Int) - 1)) H.out.block
      refine H.out.fuseSet s.spent rfl rfl rfl (by have := s.spent_left; omega) _ ((Keeps.refl _ _).setCell V 2 _ (.inl rfl)) ?_
      rw [HS.out.1, HS.out.2]
      rw [HD0.out] at hb
      exact hb
    have XK : Hid (Keeps (fun b => b = V) w (w.setCell ⟨V, 2, none⟩ (.int .i64 ((s.left : Int) - 1)))) := (Keeps.refl _ _).setCell V 2 _ (.inl rfl)
    have XR : Hid (Rw (w.setCell ⟨V, 2, none⟩ (.int .i64 ((s.left : Int) - 1))) a len f) := HR.out.keeps XK.out HA.out
    clear c0 c1 c2 c3 f1 f2 H HR HA HS HD0 hV
    generalize w.setCell ⟨V, 2, none⟩ (.int .i64 ((s.left : Int) - 1)) = X at *
    have x1 := XD.out.c1
    have y1 := XD.out.fz 1
    have hVX := XD.out.lt
    have ho : X.ownsRow 0 98 2 lv s.lo.length (rws lps) := XD.out.lo
    go_region_with (first
      | ((unfold Kept; refine wp_append_lies _ _ _ _ (by rfl) 0 98 i0 _ 2 32 Try.underlying43 HI.out HZ.out.1 HZ.out.2.1 HZ.out.2.2 rfl (by omega) lv s.lo.length (rws lps) (by rfl) (((ho.alloc _).alloc _).drew) ⟨X.heap.size + 1, 0, none⟩ 1 1 [.int .i64 (i : Int), .slice (some ⟨X.heap.size, 0, none⟩) 64 64] (by rfl) rfl (World.news_of_block (cs := #[.int .i64 (i : Int), .slice (some ⟨X.heap.size, 0, none⟩) 64 64]) (t := 98) (fr := (0, 0)) (by have := heap_alloc_new (X.alloc (.cells (valsOf (fill f len) 64).toArray 5)) (.cells #[.int .i64 (i : Int), .slice (some ⟨X.heap.size, 0, none⟩) 64 64] 98); rw [World.size_alloc] at this; exact this)) (by simp [Value.oneCell']) (by omega) (by unfold maxLen; omega) (by omega) (by omega) (X.heap.size + 1 + 1) (by simp) ?_; intro gg cp w2 hown2 hgrow hat hlt2; have q1 := cell_grown2 hgrow hVX hlV x1; have g1 := frozen_grown2 hgrow hVX hlV y1))
      | ((refine (fill_eq a len cap f _ hl XR.out.drew).mono ?_; rintro e w9 ⟨rfl, rfl⟩)))
    all_goals (go_wp2; go_ret; refine ⟨rfl, ?_⟩; obtain ⟨W', P', hd, hst⟩ := rwrite_fin XD.out XK.out hm i hi (fill f len) hgrow hown2 hat; exact ⟨W', P', hd.nowly _, hst⟩)
end Go.Proofs.Ytbecchoidglaeaa
