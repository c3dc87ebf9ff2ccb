/- The program's readInto, of any attribute. -/
import Derived.Test.YtcbdegggilnphaaDoorHInto
import Derived.Test.YtcbdegggilnphaaDoorHPlain
import Derived.Test.YtcbdegggilnphaaDoorAtQs
namespace Go.Proofs.YtcbdegggilnphaaDoor
open Go.RowKit
set_option maxRecDepth 100000

/-- An attribute, as the program reads it: Raws stand as they come. -/
def applyQ (a : At) (fl ty : Nat) (d all : List Nat) : Res :=
  if 1 ≤ ty ∧ ty ≤ 8 then
    if flagsOk fl ty = false then .inl (3, 4, all)
    else if fitsB ty d.length = false then .inl (3, 5, all)
    else if ty = 1 then if 2 < d.getD 0 0 then .inl (3, 6, all) else .inr { a with origin := ((d.getD 0 0 : Nat) : Int) }
    else if ty = 2 then match segsRun (fun q => d.getD q 0) d.length 0 [] with
      | none => .inl (3, 11, [])
      | some p => .inr { a with path := p }
    else if ty = 3 then if hopB (numL d) then .inr { a with next := numL d } else .inl (3, 8, all)
    else if ty = 4 then .inr { a with med := ((numL d : Nat) : Int) }
    else if ty = 5 then .inr { a with pref := ((numL d : Nat) : Int) }
    else if ty = 8 then if 32 < d.length / 4 then .inl (3, 9, all) else .inr { a with comms := numsL d }
    else .inr { a with raws := a.raws ++ [(((flagN ty : Nat) : Int), (ty : Int), d)] }
  else if fl < 128 then .inl (3, 2, all)
  else if fl / 64 % 2 = 0 then .inr a
  else if 255 < d.length then .inl (3, 9, all)
  else if 8 < ty then .inr { a with raws := a.raws ++ [(224, (ty : Int), d)] }
  else .inr a
theorem fitsB_bad (ty : Nat) (d : List Nat) (h1 : 1 ≤ ty) (h8 : ty ≤ 8) (hd : d.length ≤ 65535) : fitsB ty d.length = !sizeBad ty d := by
  unfold fitsB sizeBad leastN mostN eachN
  have hk : ty = 1 ∨ ty = 2 ∨ ty = 3 ∨ ty = 4 ∨ ty = 5 ∨ ty = 6 ∨ ty = 7 ∨ ty = 8 := by omega
  generalize d.length = n at *
  rw [Bool.eq_iff_iff]
  simp only [Bool.not_eq_true', decide_eq_false_iff_not, decide_eq_true_eq]
  rcases hk with rfl | rfl | rfl | rfl | rfl | rfl | rfl | rfl <;> simp <;> omega
theorem brd_getD {w : World} {a : Option Addr} {d : List Nat} (h : BRd w a d) (q : Nat) : d.getD q 0 < 256 := by
  by_cases hq : q < d.length
  · rw [List.getD_eq_getElem?_getD, List.getElem?_eq_getElem hq]
    exact h.2 _ (List.getElem_mem hq)
  · rw [List.getD_eq_getElem?_getD, List.getElem?_eq_none (by omega)]
    decide
theorem into_any (fl ty : Nat) (a1 : Option Addr) (c1 : Nat) (a2 : Option Addr) (c2 : Nat) (d all : List Nat) (X B : Nat) (a : At) (w : World) (hS : Said w) (hf : fl < 256) (hd : d.length ≤ 10000) (hdc : d.length ≤ c1) (hdr : BRd w a1 d) (hl : all.length ≤ 100000) (h : BRd w a2 all) (hX2 : ∀ ad, a2 = some ad → 0 < all.length → ad.block < X) (hbox : Box w X B a) (hB : B ≤ w.heap.size) (hr : a.raws.length ≤ 10000) :
    Calls Tryd.prog 38 #[partV (fl : Int) (ty : Int) a1 d.length c1 a2 all.length c2, .pointer (some ⟨X, 0, none⟩)] w fun e w' => IntoRes X B w w' (applyQ a fl ty d all) e := by
  unfold applyQ
  by_cases hk : 1 ≤ ty ∧ ty ≤ 8
  · rw [if_pos hk]
    by_cases hv : flagsOk fl ty = false
    · rw [if_pos hv]
      exact (into_flags fl ty a1 d.length c1 a2 c2 all X w hS hf hk.1 hk.2 hv hl h).mono fun _ _ h9 => h9.box hbox
    · rw [if_neg hv]
      have hv2 : flagsOk fl ty = true := by cases h9 : flagsOk fl ty with | true => rfl | false => exact absurd h9 hv
      by_cases hs : fitsB ty d.length = false
      · rw [if_pos hs]
        exact (into_size fl ty a1 d.length c1 a2 c2 all X w hS hf hk.1 hk.2 hv2 hs (by omega) hl h).mono fun _ _ h9 => h9.box hbox
      · rw [if_neg hs]
        have hs2 : fitsB ty d.length = true := by cases h9 : fitsB ty d.length with | true => rfl | false => exact absurd h9 hs
        have hfit := of_decide_eq_true hs2
        by_cases h1 : ty = 1
        · rw [if_pos h1]
          subst h1
          have hn : d.length = 1 := by unfold leastN mostN at hfit; simp at hfit; omega
          obtain ⟨b, o, rfl, hc, hlt⟩ := hdr.cells (by omega)
          have := into_1 fl (d.getD 0 0) b o c1 a2 c2 all X B a w hS hf hv2 (hlt 0) (by have := hc 0 (by omega); simpa using this) hl h hbox hX2
          rw [hn]
          exact this
        · rw [if_neg h1]
          by_cases h2 : ty = 2
          · rw [if_pos h2]
            subst h2
            exact into_2 fl a1 c1 a2 all.length c2 d X B a w hS hf hv2 hd hdc hdr hbox hB
          · rw [if_neg h2]
            have four : (ty = 3 ∨ ty = 4 ∨ ty = 5) → d.length = 4 := fun h9 => by
              unfold leastN mostN at hfit
              rcases h9 with rfl | rfl | rfl <;> simp at hfit <;> omega
            by_cases h3 : ty = 3
            · rw [if_pos h3]
              have hn := four (.inl h3)
              subst h3
              obtain ⟨b, o, rfl, hc, hlt⟩ := hdr.cells (by omega)
              have := into_3 fl b o c1 a2 c2 all (fun q => d.getD q 0) X B a w hS hf hv2 (fun i _ => hlt i) (fun i hi => hc i (by omega)) hl h hbox hX2
              rw [hn]
              exact this
            · rw [if_neg h3]
              by_cases h4 : ty = 4
              · rw [if_pos h4]
                have hn := four (.inr (.inl h4))
                subst h4
                obtain ⟨b, o, rfl, hc, hlt⟩ := hdr.cells (by omega)
                have := into_4 fl b o c1 a2 all.length c2 (fun q => d.getD q 0) X B a w hS hf hv2 (fun i _ => hlt i) (fun i hi => hc i (by omega)) hbox
                rw [hn]
                exact this
              · rw [if_neg h4]
                by_cases h5 : ty = 5
                · rw [if_pos h5]
                  have hn := four (.inr (.inr h5))
                  subst h5
                  obtain ⟨b, o, rfl, hc, hlt⟩ := hdr.cells (by omega)
                  have := into_5 fl b o c1 a2 all.length c2 (fun q => d.getD q 0) X B a w hS hf hv2 (fun i _ => hlt i) (fun i hi => hc i (by omega)) hbox
                  rw [hn]
                  exact this
                · rw [if_neg h5]
                  by_cases h8 : ty = 8
                  · rw [if_pos h8]
                    subst h8
                    have hn : 0 < d.length ∧ d.length % 4 = 0 := by unfold leastN mostN eachN at hfit; simp at hfit; omega
                    obtain ⟨b, o, rfl, hc, hlt⟩ := hdr.cells hn.1
                    have e4 : 4 * (d.length / 4) = d.length := by omega
                    have := into_8 fl b o (d.length / 4) c1 a2 c2 all (fun q => d.getD q 0) X B a w hS hf hv2 (by omega) (by omega) (fun i _ => hlt i) (fun i hi => hc i (by omega)) hl h hbox hB hX2
                    rw [e4] at this
                    exact this
                  · rw [if_neg h8]
                    exact into_67 fl ty a1 c1 a2 all.length c2 d X B a w hS hf (by omega) hv2 hs2 (by
                      have h67 : ty = 6 ∨ ty = 7 := by omega
                      have hm : d.length ≤ mostN ty := hfit.2.1
                      have e6 : mostN 6 = 0 := rfl
                      have e7 : mostN 7 = 8 := rfl
                      rcases h67 with rfl | rfl <;> omega) hdr hbox hB hr
  · rw [if_neg hk]
    have hty : ty = 0 ∨ 8 < ty := by omega
    by_cases h1 : fl < 128
    · rw [if_pos h1]
      exact (into_unk_throw fl ty a1 d.length c1 a2 all.length c2 X w 2 all hty (fun w1 hb => unk_no2 fl ty a1 d.length c1 a2 c2 all X w1 h1 hl (h.below hb))).mono fun _ _ h9 => h9.box hbox
    · rw [if_neg h1]
      by_cases h2 : fl / 64 % 2 = 0
      · rw [if_pos h2]
        exact into_unk_ret fl ty a1 d.length c1 a2 all.length c2 X w (fun w' => Box w' X B a ∧ Keeps (NotBox X B) w w') hty (fun w1 hb => (unk_skip fl ty a1 d.length c1 a2 all.length c2 X w1 (by omega) hf h2).mono fun _ w' h9 => ⟨h9.1, (hbox.later hb).later h9.2, keeps_box (hb.trans (h9.2.mono hb.size))⟩)
      · rw [if_neg h2]
        by_cases h3 : 255 < d.length
        · rw [if_pos h3]
          exact (into_unk_throw fl ty a1 d.length c1 a2 all.length c2 X w 9 all hty (fun w1 hb => unk_no9 fl ty a1 d.length c1 a2 c2 all X w1 (by omega) hf h2 h3 hl (h.below hb))).mono fun _ _ h9 => h9.box hbox
        · rw [if_neg h3]
          by_cases h4 : 8 < ty
          · rw [if_pos h4]
            exact into_unk_ret fl ty a1 d.length c1 a2 all.length c2 X w (fun w' => Box w' X B { a with raws := a.raws ++ [(224, (ty : Int), d)] } ∧ Keeps (NotBox X B) w w') hty (fun w1 hb => (unk_put fl ty a1 c1 a2 all.length c2 d X B a w1 (by omega) hf h2 (by omega) h4 (hdr.below hb) (hbox.later hb) (Nat.le_trans hB hb.size) hr).mono fun _ w' h9 => ⟨h9.1, h9.2.1, (keeps_box hb).trans h9.2.2 (fun _ _ h9 => h9)⟩)
          · rw [if_neg h4]
            have h0 : ty = 0 := by omega
            subst h0
            exact into_unk_ret fl 0 a1 d.length c1 a2 all.length c2 X w (fun w' => Box w' X B a ∧ Keeps (NotBox X B) w w') (.inl rfl) (fun w1 hb => (unk_zero fl a1 d.length c1 a2 all.length c2 X w1 (by omega) hf h2 (by omega)).mono fun _ w' h9 => ⟨h9.1, (hbox.later hb).later h9.2, keeps_box (hb.trans (h9.2.mono hb.size))⟩)
/-- What the program has read, beside what the document's reading says. -/
structure Rel (a b : At) (seen : List Nat) : Prop where
  eq : b = { a with raws := b.raws }
  perm : b.raws.Perm a.raws
  up : b.raws.Pairwise fun x y => x.2.1 < y.2.1
  inn : ∀ r ∈ a.raws, ∃ t : Nat, r.2.1 = (t : Int) ∧ t ∈ seen
  comms : 8 ∉ seen → a.comms = []
  cnt : a.raws.length ≤ seen.length
theorem Rel.more {a b : At} {seen : List Nat} (h : Rel a b seen) (ty : Nat) : ∀ r ∈ a.raws, ∃ t : Nat, r.2.1 = (t : Int) ∧ t ∈ ty :: seen := fun r hr => by
  obtain ⟨t, e, ht⟩ := h.inn r hr
  exact ⟨t, e, List.mem_cons_of_mem _ ht⟩
theorem Rel.snoc {a b : At} {seen : List Nat} (h : Rel a b seen) (ty : Nat) (hty : ty ∉ seen) (f : Int) (d : List Nat) : Rel { a with raws := a.raws ++ [(f, (ty : Int), d)] } { b with raws := insR (f, (ty : Int), d) b.raws } (ty :: seen) := by
  refine ⟨by rw [h.eq], ?_, ?_, ?_, fun h9 => h.comms (fun h8 => h9 (List.mem_cons_of_mem _ h8)), by simp only [List.length_append, List.length_cons, List.length_nil]; have := h.cnt; omega⟩
  · exact (insR_perm _ _).trans (h.perm.append_right _)
  · refine insR_up _ _ h.up (fun x hx e => ?_)
    obtain ⟨t, e2, ht⟩ := h.inn x (h.perm.mem_iff.1 hx)
    rw [e2] at e
    simp only at e
    have : t = ty := by omega
    exact hty (this ▸ ht)
  · intro r hr
    rcases List.mem_append.1 hr with hr | hr
    · exact h.more ty r hr
    · simp only [List.mem_cons, List.not_mem_nil, or_false] at hr
      subst hr
      exact ⟨ty, rfl, by simp⟩
theorem Rel.same {a b a' b' : At} {seen : List Nat} (h : Rel a b seen) (ty : Nat) (e : b' = { a' with raws := b'.raws }) (er : a'.raws = a.raws) (er2 : b'.raws = b.raws) (ec : 8 ∉ ty :: seen → a'.comms = []) : Rel a' b' (ty :: seen) :=
  ⟨e, by rw [er, er2]; exact h.perm, by rw [er2]; exact h.up, by rw [er]; exact h.more ty, ec, by rw [er, List.length_cons]; have := h.cnt; omega⟩
/-- One attribute, read by both. -/
theorem rel_step {a b : At} {seen : List Nat} (h : Rel a b seen) (fl ty : Nat) (d all : List Nat) (hty : ty ∉ seen) (hd : d.length ≤ 65535) :
    (∀ n, applyQ a fl ty d all = .inl n → applyA b fl ty d all = .inl n) ∧ ∀ a', applyQ a fl ty d all = .inr a' → ∃ b', applyA b fl ty d all = .inr b' ∧ Rel a' b' (ty :: seen) := by
  have hcm : 8 ∉ ty :: seen → a.comms = [] := fun h9 => h.comms (fun h8 => h9 (List.mem_cons_of_mem _ h8))
  have hb := h.eq
  have hbc : b.comms = a.comms := by rw [hb]
  unfold applyQ applyA
  by_cases hk : 1 ≤ ty ∧ ty ≤ 8
  · rw [if_pos hk, if_pos hk]
    unfold knownA
    have ef : (fl / 64 * 64 ≠ wantF ty ∨ fl / 32 % 2 = 1 ∧ ty < 7) ↔ flagsOk fl ty = false := by unfold flagsOk; simp only [Bool.not_eq_false', decide_eq_true_eq]
    by_cases hv : flagsOk fl ty = false
    · rw [if_pos hv, if_pos (ef.2 hv)]
      exact ⟨fun n e => e, fun a' e => by cases e⟩
    · rw [if_neg hv, if_neg (fun h9 => hv (ef.1 h9))]
      have es := fitsB_bad ty d hk.1 hk.2 hd
      by_cases hs : fitsB ty d.length = false
      · rw [if_pos hs, if_pos (show sizeBad ty d = true from by rw [hs] at es; simpa using es.symm)]
        exact ⟨fun n e => e, fun a' e => by cases e⟩
      · rw [if_neg hs, if_neg (show ¬ sizeBad ty d = true from fun h9 => by rw [h9] at es; exact hs es)]
        by_cases h1 : ty = 1
        · rw [if_pos h1, if_pos h1]
          split
          · exact ⟨fun n e => e, fun a' e => by cases e⟩
          · refine ⟨fun n e => (by cases e), fun a' e => ?_⟩
            cases e
            exact ⟨_, rfl, h.same ty (by rw [hb]) rfl rfl hcm⟩
        · rw [if_neg h1, if_neg h1]
          by_cases h2 : ty = 2
          · rw [if_pos h2, if_pos h2]
            cases segsRun (fun q => d.getD q 0) d.length 0 [] with
            | none => exact ⟨fun n e => e, fun a' e => by cases e⟩
            | some p =>
              refine ⟨fun n e => (by cases e), fun a' e => ?_⟩
              cases e
              exact ⟨_, rfl, h.same ty (by rw [hb]) rfl rfl hcm⟩
          · rw [if_neg h2, if_neg h2]
            by_cases h3 : ty = 3
            · rw [if_pos h3, if_pos h3]
              split
              · refine ⟨fun n e => (by cases e), fun a' e => ?_⟩
                cases e
                exact ⟨_, rfl, h.same ty (by rw [hb]) rfl rfl hcm⟩
              · exact ⟨fun n e => e, fun a' e => by cases e⟩
            · rw [if_neg h3, if_neg h3]
              by_cases h4 : ty = 4
              · rw [if_pos h4, if_pos h4]
                refine ⟨fun n e => (by cases e), fun a' e => ?_⟩
                cases e
                exact ⟨_, rfl, h.same ty (by rw [hb]) rfl rfl hcm⟩
              · rw [if_neg h4, if_neg h4]
                by_cases h5 : ty = 5
                · rw [if_pos h5, if_pos h5]
                  refine ⟨fun n e => (by cases e), fun a' e => ?_⟩
                  cases e
                  exact ⟨_, rfl, h.same ty (by rw [hb]) rfl rfl hcm⟩
                · rw [if_neg h5, if_neg h5]
                  by_cases h8 : ty = 8
                  · rw [if_pos h8, if_pos h8]
                    subst h8
                    have hc0 : b.comms = [] := by rw [hbc]; exact h.comms hty
                    by_cases hl : 128 < d.length
                    · rw [if_pos (show 32 < d.length / 4 by
                        cases hq : fitsB 8 d.length with
                        | false => exact absurd hq hs
                        | true => have := of_decide_eq_true hq; unfold eachN at this; simp at this; omega), if_pos hl]
                      exact ⟨fun n e => e, fun a' e => by cases e⟩
                    · rw [if_neg (by omega), if_neg hl]
                      refine ⟨fun n e => (by cases e), fun a' e => ?_⟩
                      cases e
                      exact ⟨_, rfl, h.same 8 (by rw [hc0, List.nil_append, hb]) rfl rfl (fun h9 => absurd (List.mem_cons_self) h9)⟩
                  · rw [if_neg h8, if_neg h8]
                    refine ⟨fun n e => (by cases e), fun a' e => ?_⟩
                    cases e
                    exact ⟨_, rfl, h.snoc ty hty _ d⟩
  · rw [if_neg hk, if_neg hk]
    by_cases h1 : fl < 128
    · rw [if_pos h1, if_pos h1]; exact ⟨fun n e => e, fun a' e => by cases e⟩
    · rw [if_neg h1, if_neg h1]
      by_cases h2 : fl / 64 % 2 = 0
      · rw [if_pos h2, if_pos h2]
        refine ⟨fun n e => (by cases e), fun a' e => ?_⟩
        cases e
        exact ⟨_, rfl, h.same ty hb rfl rfl hcm⟩
      · rw [if_neg h2, if_neg h2]
        by_cases h3 : 255 < d.length
        · rw [if_pos h3, if_pos h3]; exact ⟨fun n e => e, fun a' e => by cases e⟩
        · rw [if_neg h3, if_neg h3]
          by_cases h4 : 8 < ty
          · rw [if_pos h4, if_pos h4]
            refine ⟨fun n e => (by cases e), fun a' e => ?_⟩
            cases e
            exact ⟨_, rfl, h.snoc ty hty _ d⟩
          · rw [if_neg h4, if_neg h4]
            refine ⟨fun n e => (by cases e), fun a' e => ?_⟩
            cases e
            exact ⟨_, rfl, h.same ty hb rfl rfl hcm⟩
end Go.Proofs.YtcbdegggilnphaaDoor
/- The Raws of a box put in order; which types stood. -/
namespace Go.Proofs.YtcbdegggilnphaaDoor
open Go.RowKit
set_option maxRecDepth 100000

theorem exists_list {α : Type} (P : Nat → α → Prop) : ∀ n, (∀ i, i < n → ∃ x, P i x) → ∃ l : List α, l.length = n ∧ ∀ i x, l[i]? = some x → P i x
  | 0, _ => ⟨[], rfl, fun i x h => by simp at h⟩
  | n + 1, h => by
    obtain ⟨l, hl, hp⟩ := exists_list P n (fun i hi => h i (by omega))
    obtain ⟨x, hx⟩ := h n (by omega)
    refine ⟨l ++ [x], by simp [hl], fun i y hi => ?_⟩
    by_cases hlt : i < l.length
    · rw [List.getElem?_append_left hlt] at hi
      exact hp i y hi
    · rw [List.getElem?_append_right (by omega)] at hi
      have h0 : i - l.length = 0 := by have := (List.getElem?_eq_some_iff.1 hi).1; simpa using this
      rw [h0] at hi
      simp at hi
      subst hi
      have : i = n := by omega
      rw [this]
      exact hx
theorem own_other {w w' : World} {B B' e e' size size' n n' g c : Nat} {v : Value} {xs xs' : List Value} (h : w.ownsRow B e size v n xs) (h' : w.ownsRow B' e' size' (.slice (some ⟨g, 0, none⟩) n' c) n' xs') (hne : e ≠ e') (hk : Keeps (fun b => b = g) w w') : w'.ownsRow B e size v n xs := by
  refine ⟨h.1, ?_⟩
  rcases h.2 with hh | ⟨g2, cap, cur, e1, hb, hc, rest⟩
  · exact .inl hh
  · refine .inr ⟨g2, cap, cur, e1, hb, ?_, rest⟩
    rw [hk.block g2 (Array.getElem?_eq_some_iff.1 hc).1 (fun h9 => by
      have := own_apart h h' hne g2 (by rw [e1]; rfl)
      exact this (by rw [h9]; rfl))]
    exact hc
/-- A row of Raws of the call's own, put in order. -/
theorem raws_sort {w : World} {B : Nat} {p : Option Addr} {c : Nat} {rs S : List (Int × Int × List Nat)} (h : OwnRaws w B (.slice p rs.length c) rs) (hl : rs.length ≤ 100000) (hS : S.Perm rs) (hup : S.Pairwise fun x y => x.2.1 < y.2.1) :
    Calls Tryd.prog 22 #[.slice p rs.length c, .func (.func 23) #[] #[]] w fun e w' => e = .returned (.tuple #[]) ∧ OwnRaws w' B (.slice p rs.length c) S ∧ ∃ g, B ≤ g ∧ Keeps (fun b => b = g) w w' ∧ ∀ (e' size' n' : Nat) (v : Value) (xs : List Value), e' ≠ 48 → w.ownsRow B e' size' v n' xs → w'.ownsRow B e' size' v n' xs := by
  by_cases h0 : rs = []
  · subst h0
    have hS0 : S = [] := List.perm_nil.1 hS
    subst hS0
    refine (sort_none p c w).mono ?_
    rintro e w' ⟨rfl, rfl⟩
    exact ⟨rfl, h, B, Nat.le_refl _, Keeps.refl _ _, fun _ _ _ _ _ _ h9 => h9⟩
  · have hpos : 0 < rs.length := List.length_pos_iff.2 h0
    obtain ⟨cs, ho, hc⟩ := h
    obtain ⟨g, hp⟩ : ∃ g, p = some ⟨g, 0, none⟩ := by
      rcases ho.2 with ⟨_, e⟩ | ⟨g, cap, cur, e, _⟩
      · omega
      · simp only [Value.slice.injEq] at e
        exact ⟨g, e.1⟩
    subst hp
    have hgB : B ≤ g := (own_block ho g rfl).1
    obtain ⟨Z, hZl, hZ⟩ := exists_list (fun i (z : RE × (Int × Int × List Nat)) => rs[i]? = some z.2 ∧ z.1.1 = z.2.1 ∧ z.1.2.1 = z.2.2.1 ∧ cs[i * 3]? = some (.int .i64 z.1.1) ∧ cs[i * 3 + 1]? = some (.int .i64 z.1.2.1) ∧ cs[i * 3 + 2]? = some (.slice z.1.2.2.1 z.1.2.2.2.1 z.1.2.2.2.2) ∧ w.ownsRow B 5 1 (.slice z.1.2.2.1 z.1.2.2.2.1 z.1.2.2.2.2) z.2.2.2.length (bcells z.2.2.2)) rs.length (fun i hi => by
      obtain ⟨h1, h2, u, h3, h4⟩ := hc i _ (List.getElem?_eq_getElem hi)
      obtain ⟨a', c', rfl⟩ := own_shape h4
      exact ⟨((rs[i].1, rs[i].2.1, a', rs[i].2.2.length, c'), rs[i]), List.getElem?_eq_getElem hi, rfl, rfl, h1, h2, h3, h4⟩)
    have hfst : ∀ i x, (Z.map fun z => z.1)[i]? = some x → ∃ z : RE × (Int × Int × List Nat), Z[i]? = some z ∧ z.1 = x := fun i x hx => by
      rw [List.getElem?_map] at hx
      cases hz : Z[i]? with
      | none => rw [hz] at hx; cases hx
      | some z => rw [hz] at hx; exact ⟨z, hz, Option.some.inj hx⟩
    have hR : RowsE cs (Z.map fun z => z.1) := fun i x hx => by
      obtain ⟨z, hz, rfl⟩ := hfst i x hx
      obtain ⟨_, _, _, g1, g2, g3, _⟩ := hZ i z hz
      exact ⟨g1, g2, g3⟩
    have hsnd : (Z.map fun z => z.2) = rs := by
      apply List.ext_getElem?
      intro i
      rw [List.getElem?_map]
      by_cases hi : i < Z.length
      · rw [List.getElem?_eq_getElem hi, (hZ i _ (List.getElem?_eq_getElem hi)).1]; rfl
      · rw [List.getElem?_eq_none (by omega), List.getElem?_eq_none (by omega)]; rfl
    refine (sort_row (Z.map fun z => z.1) B g rs.length c cs w ho (by rw [List.length_map]; exact hZl) hR hl).mono ?_
    rintro e w' ⟨rfl, d', cs', hperm, hsort, ho', hR', hk⟩
    obtain ⟨Z', hZp, e1, e2⟩ := sort_lift (fun x : RE => x.2.1) (fun r : Int × Int × List Nat => r.2.1) d' Z hperm hsort (fun z hz => by
      obtain ⟨i, hi, rfl⟩ := List.mem_iff_getElem.1 hz
      exact (hZ i _ (List.getElem?_eq_getElem hi)).2.2.1) S (by rw [hsnd]; exact hS) hup
    have hSl : S.length = rs.length := hS.length_eq
    refine ⟨rfl, ⟨cs', by rw [hSl]; exact ho', fun i r hr => ?_⟩, g, hgB, hk, fun e' size' n' v xs hne h9 => own_other h9 ho hne hk⟩
    rw [← e2, List.getElem?_map] at hr
    cases hz : Z'[i]? with
    | none => rw [hz] at hr; cases hr
    | some z =>
      rw [hz] at hr
      have ez : z.2 = r := Option.some.inj hr
      have hzm : z ∈ Z := hZp.mem_iff.1 (List.mem_of_getElem? hz)
      obtain ⟨j, hj, ej⟩ := List.mem_iff_getElem.1 hzm
      obtain ⟨_, q1, q2, _, _, _, q6⟩ := hZ j z (by rw [List.getElem?_eq_getElem hj, ej])
      obtain ⟨g1, g2, g3⟩ := hR' i z.1 (by rw [← e1, List.getElem?_map, hz]; rfl)
      rw [← ez]
      exact ⟨by rw [g1, q1], by rw [g2, q2], _, g3, own_other q6 ho (by decide) hk⟩
/-- The Raws of a box, put in order. -/
theorem box_sort {w : World} {X B : Nat} {x b : At} {seen : List Nat} {p : Option Addr} {c : Nat} (h : Box w X B x) (hr : Rel x b seen) (hl : x.raws.length ≤ 100000) (hv : w.cell? ⟨X, 6, none⟩ = some (.slice p x.raws.length c)) :
    Calls Tryd.prog 22 #[.slice p x.raws.length c, .func (.func 23) #[] #[]] w fun e w' => e = .returned (.tuple #[]) ∧ Box w' X B b ∧ Keeps (NotBox X B) w w' := by
  obtain ⟨p6, k6, q6, o6⟩ := h.c6
  rw [hv] at q6
  simp only [Option.some.injEq, Value.slice.injEq, true_and] at q6
  obtain ⟨rfl, rfl⟩ := q6
  refine (raws_sort o6 hl hr.perm hr.up).mono ?_
  rintro e w' ⟨rfl, hO, g, hg, hk, hoth⟩
  have hXB := h.lt
  have hX := h.pos
  have cX : ∀ j, w'.cell? ⟨X, j, none⟩ = w.cell? ⟨X, j, none⟩ := fun j => hk.cell ⟨X, j, none⟩ hX (fun e => by simp only at e; omega)
  have fX : ∀ j, w'.frozen? ⟨X, j, none⟩ = false := fun j => by
    rw [World.frozen?_of_block (w := w) (hk.block X hX (fun e => by omega))]
    exact h.fz j
  obtain ⟨p1, k1, q1, o1⟩ := h.c1
  obtain ⟨p5, k5, q5, o5⟩ := h.c5
  have oP : OwnPath w' B (.slice p1 x.path.length k1) x.path := by
    obtain ⟨cs, ho, hc⟩ := o1
    refine ⟨cs, hoth _ _ _ _ _ (by decide) ho, fun i s hi => ?_⟩
    obtain ⟨g1, u, g2, g3⟩ := hc i s hi
    exact ⟨g1, u, g2, hoth _ _ _ _ _ (by decide) g3⟩
  have eb := hr.eq
  have hlen : b.raws.length = x.raws.length := hr.perm.length_eq
  refine ⟨rfl, ?_, ⟨hk.os, hk.tape, hk.output, hk.size, fun k hk2 hn => hk.block k hk2 (fun e => hn (.inr (by omega)))⟩⟩
  rw [eb]
  exact ⟨by rw [cX]; exact h.c0, ⟨p1, k1, by rw [cX]; exact q1, oP⟩, by rw [cX]; exact h.c2, by rw [cX]; exact h.c3, by rw [cX]; exact h.c4, ⟨p5, k5, by rw [cX]; exact q5, hoth _ _ _ _ _ (by decide) o5⟩, ⟨p, c, by rw [cX]; show _ = some (Value.slice p b.raws.length c); rw [hlen]; exact hv, by show OwnRaws w' B (.slice p b.raws.length c) b.raws; rw [hlen]; exact hO⟩, fX, hXB⟩
/-- Which types stood: the cells of block Y. -/
def Stood (w : World) (Y : Nat) (seen : List Nat) : Prop := ∀ i, i < 256 → w.cell? ⟨Y, i, none⟩ = some (.bool (decide (i ∈ seen))) ∧ w.frozen? ⟨Y, i, none⟩ = false
theorem Stood.keeps {F : Nat → Prop} {w w' : World} {Y : Nat} {seen : List Nat} (h : Stood w Y seen) (hk : Keeps F w w') (hF : ¬ F Y) : Stood w' Y seen := fun i hi => by
  have hY := World.block_lt_of_cell? w _ (h i hi).1
  simp only at hY
  exact ⟨by rw [hk.cell ⟨Y, i, none⟩ hY hF]; exact (h i hi).1, by rw [World.frozen?_of_block (w := w) (hk.block Y hY hF)]; exact (h i hi).2⟩
theorem Stood.put {w : World} {Y : Nat} {seen : List Nat} (h : Stood w Y seen) (t : Nat) (ht : t < 256) : Stood (w.setCell ⟨Y, t, none⟩ (.bool true)) Y (t :: seen) := fun i hi => by
  refine ⟨?_, by rw [World.frozen?_setCell]; exact (h i hi).2⟩
  by_cases e : i = t
  · subst e
    rw [World.cell?_setCell_same _ _ _ (h i hi).1]
    simp
  · rw [World.cell?_setCell_other _ _ _ _ (by intro e9; injection e9 with _ e2 _; exact e e2.symm), (h i hi).1]
    congr 2
    rw [Bool.eq_iff_iff]
    simp only [decide_eq_true_eq, List.mem_cons]
    constructor
    · exact fun h9 => .inr h9
    · rintro (h9 | h9)
      · exact absurd h9 e
      · exact h9
theorem infoSeen : (Tryd.prog.info? 61).map (fun i => (i.zero, i.size, i.bytes)) = some (some (.agg (Array.replicate 256 (.bool false))), 256, 256) := by kernel_rfl
theorem run_alloc_seen (w : World) : (Instr.alloc 61 true (.tuple #[])).run Tryd.prog w = .ok (.pointer (some ⟨w.heap.size, 0, none⟩)) (w.alloc (.cells (Array.replicate 256 (.bool false)) 61)) := by
  obtain ⟨i0, hi0, hz0, _, _⟩ := info_parts infoSeen
  simp [Instr.alloc, zeroValue, typeInfo, hi0, hz0, newVar, newRow, Value.cells]
theorem stood_new (w : World) : Stood (w.alloc (.cells (Array.replicate 256 (.bool false)) 61)) w.heap.size [] := fun i hi => by
  refine ⟨?_, by simp [go_sem]⟩
  rw [World.cell?_alloc_mark, Array.getElem?_replicate, if_pos hi]
  simp
end Go.Proofs.YtcbdegggilnphaaDoor
