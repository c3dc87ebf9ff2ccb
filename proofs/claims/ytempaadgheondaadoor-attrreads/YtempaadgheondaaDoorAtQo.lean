/- The program's readInto, of any attribute. -/
import Derived.Test.YtempaadgheondaaDoorHInto
import Derived.Test.YtempaadgheondaaDoorHPlain
namespace Go.Proofs.YtempaadgheondaaDoor
open Go.RowKit
set_option maxRecDepth 100000

/-- An attribute, as the program reads it: Raws stand as they come. -/
def applyQ (a : At) (fl ty : Nat) (d all : List Nat) : Res :=
  if 1 ≤ ty ∧ ty ≤ 8 then
    if flagsOk fl ty = false then .inl (3, 4, all)
    else if fitsB ty d.length = false then .inl (3, 5, all)
    else if ty = 1 then if 2 < d.getD 0 0 then .inl (3, 6, all) else .inr { a with origin := ((d.getD 0 0 : Nat) : Int) }
    else if ty = 2 then match segsRun (fun q => d.getD q 0) d.length 0 [] with
      | none => .inl (3, 11, [])
      | some p => .inr { a with path := p }
    else if ty = 3 then if hopB (numL d) then .inr { a with next := numL d } else .inl (3, 8, all)
    else if ty = 4 then .inr { a with med := ((numL d : Nat) : Int) }
    else if ty = 5 then .inr { a with pref := ((numL d : Nat) : Int) }
    else if ty = 8 then if 32 < d.length / 4 then .inl (3, 9, all) else .inr { a with comms := numsL d }
    else .inr { a with raws := a.raws ++ [(((flagN ty : Nat) : Int), (ty : Int), d)] }
  else if fl < 128 then .inl (3, 2, all)
  else if fl / 64 % 2 = 0 then .inr a
  else if 255 < d.length then .inl (3, 9, all)
  else if 8 < ty then .inr { a with raws := a.raws ++ [(224, (ty : Int), d)] }
  else .inr a
theorem fitsB_bad (ty : Nat) (d : List Nat) (h1 : 1 ≤ ty) (h8 : ty ≤ 8) (hd : d.length ≤ 65535) : fitsB ty d.length = !sizeBad ty d := by
  unfold fitsB sizeBad leastN mostN eachN
  have hk : ty = 1 ∨ ty = 2 ∨ ty = 3 ∨ ty = 4 ∨ ty = 5 ∨ ty = 6 ∨ ty = 7 ∨ ty = 8 := by omega
  generalize d.length = n at *
  rw [Bool.eq_iff_iff]
  simp only [Bool.not_eq_true', decide_eq_false_iff_not, decide_eq_true_eq]
  rcases hk with rfl | rfl | rfl | rfl | rfl | rfl | rfl | rfl <;> simp <;> omega
theorem brd_getD {w : World} {a : Option Addr} {d : List Nat} (h : BRd w a d) (q : Nat) : d.getD q 0 < 256 := by
  by_cases hq : q < d.length
  · rw [List.getD_eq_getElem?_getD, List.getElem?_eq_getElem hq]
    exact h.2 _ (List.getElem_mem hq)
  · rw [List.getD_eq_getElem?_getD, List.getElem?_eq_none (by omega)]
    decide
theorem into_any (fl ty : Nat) (a1 : Option Addr) (c1 : Nat) (a2 : Option Addr) (c2 : Nat) (d all : List Nat) (X B : Nat) (a : At) (w : World) (hS : Said w) (hf : fl < 256) (hd : d.length ≤ 10000) (hdc : d.length ≤ c1) (hdr : BRd w a1 d) (hl : all.length ≤ 100000) (h : BRd w a2 all) (hX2 : ∀ ad, a2 = some ad → 0 < all.length → ad.block < X) (hbox : Box w X B a) (hB : B ≤ w.heap.size) (hr : a.raws.length ≤ 10000) :
    Calls Tryd.prog 38 #[partV (fl : Int) (ty : Int) a1 d.length c1 a2 all.length c2, .pointer (some ⟨X, 0, none⟩)] w fun e w' => IntoRes X B w w' (applyQ a fl ty d all) e := by
  unfold applyQ
  by_cases hk : 1 ≤ ty ∧ ty ≤ 8
  · rw [if_pos hk]
    by_cases hv : flagsOk fl ty = false
    · rw [if_pos hv]
      exact (into_flags fl ty a1 d.length c1 a2 c2 all X w hS hf hk.1 hk.2 hv hl h).mono fun _ _ h9 => h9.box hbox
    · rw [if_neg hv]
      have hv2 : flagsOk fl ty = true := by cases h9 : flagsOk fl ty with | true => rfl | false => exact absurd h9 hv
      by_cases hs : fitsB ty d.length = false
      · rw [if_pos hs]
        exact (into_size fl ty a1 d.length c1 a2 c2 all X w hS hf hk.1 hk.2 hv2 hs (by omega) hl h).mono fun _ _ h9 => h9.box hbox
      · rw [if_neg hs]
        have hs2 : fitsB ty d.length = true := by cases h9 : fitsB ty d.length with | true => rfl | false => exact absurd h9 hs
        have hfit := of_decide_eq_true hs2
        by_cases h1 : ty = 1
        · rw [if_pos h1]
          subst h1
          have hn : d.length = 1 := by unfold leastN mostN at hfit; simp at hfit; omega
          obtain ⟨b, o, rfl, hc, hlt⟩ := hdr.cells (by omega)
          have := into_1 fl (d.getD 0 0) b o c1 a2 c2 all X B a w hS hf hv2 (hlt 0) (by have := hc 0 (by omega); simpa using this) hl h hbox hX2
          rw [hn]
          exact this
        · rw [if_neg h1]
          by_cases h2 : ty = 2
          · rw [if_pos h2]
            subst h2
            exact into_2 fl a1 c1 a2 all.length c2 d X B a w hS hf hv2 hd hdc hdr hbox hB
          · rw [if_neg h2]
            have four : (ty = 3 ∨ ty = 4 ∨ ty = 5) → d.length = 4 := fun h9 => by
              unfold leastN mostN at hfit
              rcases h9 with rfl | rfl | rfl <;> simp at hfit <;> omega
            by_cases h3 : ty = 3
            · rw [if_pos h3]
              have hn := four (.inl h3)
              subst h3
              obtain ⟨b, o, rfl, hc, hlt⟩ := hdr.cells (by omega)
              have := into_3 fl b o c1 a2 c2 all (fun q => d.getD q 0) X B a w hS hf hv2 (fun i _ => hlt i) (fun i hi => hc i (by omega)) hl h hbox hX2
              rw [hn]
              exact this
            · rw [if_neg h3]
              by_cases h4 : ty = 4
              · rw [if_pos h4]
                have hn := four (.inr (.inl h4))
                subst h4
                obtain ⟨b, o, rfl, hc, hlt⟩ := hdr.cells (by omega)
                have := into_4 fl b o c1 a2 all.length c2 (fun q => d.getD q 0) X B a w hS hf hv2 (fun i _ => hlt i) (fun i hi => hc i (by omega)) hbox
                rw [hn]
                exact this
              · rw [if_neg h4]
                by_cases h5 : ty = 5
                · rw [if_pos h5]
                  have hn := four (.inr (.inr h5))
                  subst h5
                  obtain ⟨b, o, rfl, hc, hlt⟩ := hdr.cells (by omega)
                  have := into_5 fl b o c1 a2 all.length c2 (fun q => d.getD q 0) X B a w hS hf hv2 (fun i _ => hlt i) (fun i hi => hc i (by omega)) hbox
                  rw [hn]
                  exact this
                · rw [if_neg h5]
                  by_cases h8 : ty = 8
                  · rw [if_pos h8]
                    subst h8
                    have hn : 0 < d.length ∧ d.length % 4 = 0 := by unfold leastN mostN eachN at hfit; simp at hfit; omega
                    obtain ⟨b, o, rfl, hc, hlt⟩ := hdr.cells hn.1
                    have e4 : 4 * (d.length / 4) = d.length := by omega
                    have := into_8 fl b o (d.length / 4) c1 a2 c2 all (fun q => d.getD q 0) X B a w hS hf hv2 (by omega) (by omega) (fun i _ => hlt i) (fun i hi => hc i (by omega)) hl h hbox hB hX2
                    rw [e4] at this
                    exact this
                  · rw [if_neg h8]
                    exact into_67 fl ty a1 c1 a2 all.length c2 d X B a w hS hf (by omega) hv2 hs2 (by
                      have h67 : ty = 6 ∨ ty = 7 := by omega
                      have hm : d.length ≤ mostN ty := hfit.2.1
                      have e6 : mostN 6 = 0 := rfl
                      have e7 : mostN 7 = 8 := rfl
                      rcases h67 with rfl | rfl <;> omega) hdr hbox hB hr
  · rw [if_neg hk]
    have hty : ty = 0 ∨ 8 < ty := by omega
    by_cases h1 : fl < 128
    · rw [if_pos h1]
      exact (into_unk_throw fl ty a1 d.length c1 a2 all.length c2 X w 2 all hty (fun w1 hb => unk_no2 fl ty a1 d.length c1 a2 c2 all X w1 h1 hl (h.below hb))).mono fun _ _ h9 => h9.box hbox
    · rw [if_neg h1]
      by_cases h2 : fl / 64 % 2 = 0
      · rw [if_pos h2]
        exact into_unk_ret fl ty a1 d.length c1 a2 all.length c2 X w (fun w' => Box w' X B a ∧ Keeps (NotBox X B) w w') hty (fun w1 hb => (unk_skip fl ty a1 d.length c1 a2 all.length c2 X w1 (by omega) hf h2).mono fun _ w' h9 => ⟨h9.1, (hbox.later hb).later h9.2, keeps_box (hb.trans (h9.2.mono hb.size))⟩)
      · rw [if_neg h2]
        by_cases h3 : 255 < d.length
        · rw [if_pos h3]
          exact (into_unk_throw fl ty a1 d.length c1 a2 all.length c2 X w 9 all hty (fun w1 hb => unk_no9 fl ty a1 d.length c1 a2 c2 all X w1 (by omega) hf h2 h3 hl (h.below hb))).mono fun _ _ h9 => h9.box hbox
        · rw [if_neg h3]
          by_cases h4 : 8 < ty
          · rw [if_pos h4]
            exact into_unk_ret fl ty a1 d.length c1 a2 all.length c2 X w (fun w' => Box w' X B { a with raws := a.raws ++ [(224, (ty : Int), d)] } ∧ Keeps (NotBox X B) w w') hty (fun w1 hb => (unk_put fl ty a1 c1 a2 all.length c2 d X B a w1 (by omega) hf h2 (by omega) h4 (hdr.below hb) (hbox.later hb) (Nat.le_trans hB hb.size) hr).mono fun _ w' h9 => ⟨h9.1, h9.2.1, (keeps_box hb).trans h9.2.2 (fun _ _ h9 => h9)⟩)
          · rw [if_neg h4]
            have h0 : ty = 0 := by omega
            subst h0
            exact into_unk_ret fl 0 a1 d.length c1 a2 all.length c2 X w (fun w' => Box w' X B a ∧ Keeps (NotBox X B) w w') (.inl rfl) (fun w1 hb => (unk_zero fl a1 d.length c1 a2 all.length c2 X w1 (by omega) hf h2 (by omega)).mono fun _ w' h9 => ⟨h9.1, (hbox.later hb).later h9.2, keeps_box (hb.trans (h9.2.mono hb.size))⟩)
/-- What the program has read, beside what the document's reading says. -/
structure Rel (a b : At) (seen : List Nat) : Prop where
  eq : b = { a with raws := b.raws }
  perm : b.raws.Perm a.raws
  up : b.raws.Pairwise fun x y => x.2.1 < y.2.1
  inn : ∀ r ∈ a.raws, ∃ t : Nat, r.2.1 = (t : Int) ∧ t ∈ seen
  comms : 8 ∉ seen → a.comms = []
  cnt : a.raws.length ≤ seen.length
theorem Rel.more {a b : At} {seen : List Nat} (h : Rel a b seen) (ty : Nat) : ∀ r ∈ a.raws, ∃ t : Nat, r.2.1 = (t : Int) ∧ t ∈ ty :: seen := fun r hr => by
  obtain ⟨t, e, ht⟩ := h.inn r hr
  exact ⟨t, e, List.mem_cons_of_mem _ ht⟩
theorem Rel.snoc {a b : At} {seen : List Nat} (h : Rel a b seen) (ty : Nat) (hty : ty ∉ seen) (f : Int) (d : List Nat) : Rel { a with raws := a.raws ++ [(f, (ty : Int), d)] } { b with raws := insR (f, (ty : Int), d) b.raws } (ty :: seen) := by
  refine ⟨by rw [h.eq], ?_, ?_, ?_, fun h9 => h.comms (fun h8 => h9 (List.mem_cons_of_mem _ h8)), by simp only [List.length_append, List.length_cons, List.length_nil]; have := h.cnt; omega⟩
  · exact (insR_perm _ _).trans (h.perm.append_right _)
  · refine insR_up _ _ h.up (fun x hx e => ?_)
    obtain ⟨t, e2, ht⟩ := h.inn x (h.perm.mem_iff.1 hx)
    rw [e2] at e
    simp only at e
    have : t = ty := by omega
    exact hty (this ▸ ht)
  · intro r hr
    rcases List.mem_append.1 hr with hr | hr
    · exact h.more ty r hr
    · simp only [List.mem_cons, List.not_mem_nil, or_false] at hr
      subst hr
      exact ⟨ty, rfl, by simp⟩
theorem Rel.same {a b a' b' : At} {seen : List Nat} (h : Rel a b seen) (ty : Nat) (e : b' = { a' with raws := b'.raws }) (er : a'.raws = a.raws) (er2 : b'.raws = b.raws) (ec : 8 ∉ ty :: seen → a'.comms = []) : Rel a' b' (ty :: seen) :=
  ⟨e, by rw [er, er2]; exact h.perm, by rw [er2]; exact h.up, by rw [er]; exact h.more ty, ec, by rw [er, List.length_cons]; have := h.cnt; omega⟩
/-- One attribute, read by both. -/
theorem rel_step {a b : At} {seen : List Nat} (h : Rel a b seen) (fl ty : Nat) (d all : List Nat) (hty : ty ∉ seen) (hd : d.length ≤ 65535) :
    (∀ n, applyQ a fl ty d all = .inl n → applyA b fl ty d all = .inl n) ∧ ∀ a', applyQ a fl ty d all = .inr a' → ∃ b', applyA b fl ty d all = .inr b' ∧ Rel a' b' (ty :: seen) := by
  have hcm : 8 ∉ ty :: seen → a.comms = [] := fun h9 => h.comms (fun h8 => h9 (List.mem_cons_of_mem _ h8))
  have hb := h.eq
  have hbc : b.comms = a.comms := by rw [hb]
  unfold applyQ applyA
  by_cases hk : 1 ≤ ty ∧ ty ≤ 8
  · rw [if_pos hk, if_pos hk]
    unfold knownA
    have ef : (fl / 64 * 64 ≠ wantF ty ∨ fl / 32 % 2 = 1 ∧ ty < 7) ↔ flagsOk fl ty = false := by unfold flagsOk; simp only [Bool.not_eq_false', decide_eq_true_eq]
    by_cases hv : flagsOk fl ty = false
    · rw [if_pos hv, if_pos (ef.2 hv)]
      exact ⟨fun n e => e, fun a' e => by cases e⟩
    · rw [if_neg hv, if_neg (fun h9 => hv (ef.1 h9))]
      have es := fitsB_bad ty d hk.1 hk.2 hd
      by_cases hs : fitsB ty d.length = false
      · rw [if_pos hs, if_pos (show sizeBad ty d = true from by rw [hs] at es; simpa using es.symm)]
        exact ⟨fun n e => e, fun a' e => by cases e⟩
      · rw [if_neg hs, if_neg (show ¬ sizeBad ty d = true from fun h9 => by rw [h9] at es; exact hs es)]
        by_cases h1 : ty = 1
        · rw [if_pos h1, if_pos h1]
          split
          · exact ⟨fun n e => e, fun a' e => by cases e⟩
          · refine ⟨fun n e => (by cases e), fun a' e => ?_⟩
            cases e
            exact ⟨_, rfl, h.same ty (by rw [hb]) rfl rfl hcm⟩
        · rw [if_neg h1, if_neg h1]
          by_cases h2 : ty = 2
          · rw [if_pos h2, if_pos h2]
            cases segsRun (fun q => d.getD q 0) d.length 0 [] with
            | none => exact ⟨fun n e => e, fun a' e => by cases e⟩
            | some p =>
              refine ⟨fun n e => (by cases e), fun a' e => ?_⟩
              cases e
              exact ⟨_, rfl, h.same ty (by rw [hb]) rfl rfl hcm⟩
          · rw [if_neg h2, if_neg h2]
            by_cases h3 : ty = 3
            · rw [if_pos h3, if_pos h3]
              split
              · refine ⟨fun n e => (by cases e), fun a' e => ?_⟩
                cases e
                exact ⟨_, rfl, h.same ty (by rw [hb]) rfl rfl hcm⟩
              · exact ⟨fun n e => e, fun a' e => by cases e⟩
            · rw [if_neg h3, if_neg h3]
              by_cases h4 : ty = 4
              · rw [if_pos h4, if_pos h4]
                refine ⟨fun n e => (by cases e), fun a' e => ?_⟩
                cases e
                exact ⟨_, rfl, h.same ty (by rw [hb]) rfl rfl hcm⟩
              · rw [if_neg h4, if_neg h4]
                by_cases h5 : ty = 5
                · rw [if_pos h5, if_pos h5]
                  refine ⟨fun n e => (by cases e), fun a' e => ?_⟩
                  cases e
                  exact ⟨_, rfl, h.same ty (by rw [hb]) rfl rfl hcm⟩
                · rw [if_neg h5, if_neg h5]
                  by_cases h8 : ty = 8
                  · rw [if_pos h8, if_pos h8]
                    subst h8
                    have hc0 : b.comms = [] := by rw [hbc]; exact h.comms hty
                    by_cases hl : 128 < d.length
                    · rw [if_pos (show 32 < d.length / 4 by
                        cases hq : fitsB 8 d.length with
                        | false => exact absurd hq hs
                        | true => have := of_decide_eq_true hq; unfold eachN at this; simp at this; omega), if_pos hl]
                      exact ⟨fun n e => e, fun a' e => by cases e⟩
                    · rw [if_neg (by omega), if_neg hl]
                      refine ⟨fun n e => (by cases e), fun a' e => ?_⟩
                      cases e
                      exact ⟨_, rfl, h.same 8 (by rw [hc0, List.nil_append, hb]) rfl rfl (fun h9 => absurd (List.mem_cons_self) h9)⟩
                  · rw [if_neg h8, if_neg h8]
                    refine ⟨fun n e => (by cases e), fun a' e => ?_⟩
                    cases e
                    exact ⟨_, rfl, h.snoc ty hty _ d⟩
  · rw [if_neg hk, if_neg hk]
    by_cases h1 : fl < 128
    · rw [if_pos h1, if_pos h1]; exact ⟨fun n e => e, fun a' e => by cases e⟩
    · rw [if_neg h1, if_neg h1]
      by_cases h2 : fl / 64 % 2 = 0
      · rw [if_pos h2, if_pos h2]
        refine ⟨fun n e => (by cases e), fun a' e => ?_⟩
        cases e
        exact ⟨_, rfl, h.same ty hb rfl rfl hcm⟩
      · rw [if_neg h2, if_neg h2]
        by_cases h3 : 255 < d.length
        · rw [if_pos h3, if_pos h3]; exact ⟨fun n e => e, fun a' e => by cases e⟩
        · rw [if_neg h3, if_neg h3]
          by_cases h4 : 8 < ty
          · rw [if_pos h4, if_pos h4]
            refine ⟨fun n e => (by cases e), fun a' e => ?_⟩
            cases e
            exact ⟨_, rfl, h.snoc ty hty _ d⟩
          · rw [if_neg h4, if_neg h4]
            refine ⟨fun n e => (by cases e), fun a' e => ?_⟩
            cases e
            exact ⟨_, rfl, h.same ty hb rfl rfl hcm⟩
end Go.Proofs.YtempaadgheondaaDoor
