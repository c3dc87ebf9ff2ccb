/- The Updates of Delta, played (plain). -/
import Derived.Test.YthigjonagbfbbaaDoorKBc
import Derived.Test.YthigjonagbfbbaaDoorKBe
namespace Go.Proofs.YthigjonagbfbbaaDoor
open Go.RowKit
set_option maxRecDepth 100000

def rtF (f : Array Value → At) (t : Tl) : Rt := ⟨t.A, t.L, 0, f t.C, 0⟩
def lessL (x y : Tl) : Prop := x.A < y.A ∨ (x.A = y.A ∧ x.L < y.L)
def RisesL (l : List Tl) : Prop := l.Pairwise lessL
theorem ahead_rtF (f : Array Value → At) (x y : Tl) : aheadK (rtF f x) (rtF f y) = true ↔ lessL x y := by
  rw [ahead_iff]
  unfold lessL rtF
  simp only
  constructor
  · rintro (h | ⟨h, h1 | ⟨_, h2⟩⟩)
    · exact .inl h
    · exact .inr ⟨h, h1⟩
    · omega
  · rintro (h | ⟨h, h2⟩)
    · exact .inl h
    · exact .inr ⟨h, .inl h2⟩
theorem rises_rtF (f : Array Value → At) (l : List Tl) (h : RisesL l) : RisesR (l.map (rtF f)) := by
  unfold RisesR
  rw [List.pairwise_map]
  exact h.imp fun h9 => (ahead_rtF f _ _).2 h9
theorem rises_key {l : List Tl} (h : RisesL l) {x y : Tl} (hx : x ∈ l) (hy : y ∈ l) (hA : x.A = y.A) (hL : x.L = y.L) : x = y := by
  induction h with
  | nil => cases hx
  | @cons z m h1 _ ih =>
    rcases List.mem_cons.1 hx with ex | hx
    · rcases List.mem_cons.1 hy with ey | hy
      · rw [ex, ey]
      · have := h1 y hy
        rw [← ex] at this
        unfold lessL at this
        omega
    · rcases List.mem_cons.1 hy with ey | hy
      · have := h1 x hx
        rw [← ey] at this
        unfold lessL at this
        omega
      · exact ih hx hy
theorem byP_no (l : List Tl) (A : Nat) (L : Int) : byP l A L = none ↔ ∀ t ∈ l, ¬ (t.A = A ∧ t.L = L) := by
  have key : ∀ m : List Tl, byP m.reverse A L = none ↔ ∀ t ∈ m, ¬ (t.A = A ∧ t.L = L) := by
    intro m
    induction m with
    | nil => exact ⟨fun _ t ht => (by cases ht), fun _ => rfl⟩
    | cons t m ih =>
      rw [List.reverse_cons, byP_snoc]
      by_cases h : A = t.A ∧ L = t.L
      · rw [if_pos h]
        exact ⟨fun h9 => (by cases h9), fun h9 => absurd ⟨h.1.symm, h.2.symm⟩ (h9 t (by simp))⟩
      · rw [if_neg h, ih]
        constructor
        · intro h9 x hx
          rcases List.mem_cons.1 hx with rfl | hx
          · exact fun h8 => h ⟨h8.1.symm, h8.2.symm⟩
          · exact h9 x hx
        · exact fun h9 x hx => h9 x (List.mem_cons_of_mem _ hx)
  have := key l.reverse
  rw [List.reverse_reverse] at this
  rw [this]
  simp
theorem byP_here {l : List Tl} (h : RisesL l) {t : Tl} (ht : t ∈ l) : byP l t.A t.L = some t.C := by
  cases hb : byP l t.A t.L with
  | none => exact absurd ⟨rfl, rfl⟩ ((byP_no l t.A t.L).1 hb t ht)
  | some C =>
    obtain ⟨x, hx, h1, h2, h3⟩ := byP_mem l _ _ _ hb
    have := rises_key h hx ht h1 h2
    rw [← h3, this]
/-- Drops, one behind another. -/
def dropsL (ps : List (Nat × Int)) (l : List Rt) : List Rt := ps.foldl (fun l p => dropL p.1 p.2 0 l) l
theorem drops_mem : ∀ (ps : List (Nat × Int)) (l : List Rt) (x : Rt), x ∈ dropsL ps l ↔ x ∈ l ∧ ∀ p ∈ ps, Go.Proofs.YthigjonagbfbbaaDoor.gone p.1 p.2 0 x = false
  | [], l, x => by simp [dropsL]
  | p :: ps, l, x => by
    show x ∈ dropsL ps (dropL p.1 p.2 0 l) ↔ _
    rw [drops_mem ps, mem_drop]
    simp only [List.mem_cons, forall_eq_or_imp]
    exact ⟨fun h => ⟨h.1.1, h.1.2, h.2⟩, fun h => ⟨⟨h.1, h.2.1⟩, h.2.2⟩⟩
theorem drops_rises : ∀ (ps : List (Nat × Int)) (l : List Rt), RisesR l → RisesR (dropsL ps l)
  | [], _, h => h
  | _ :: ps, _, h => drops_rises ps _ (rises_drop _ _ _ _ h)
def putsL (rs : List Rt) (l : List Rt) : List Rt := rs.foldl (fun l r => putL r l) l
theorem puts_rises : ∀ (rs : List Rt) (l : List Rt), RisesR l → RisesR (putsL rs l)
  | [], _, h => h
  | r :: rs, l, h => puts_rises rs _ (rises_put r l h)
theorem puts_keep : ∀ (rs : List Rt) (l : List Rt) (x : Rt), RisesR l → (∀ r ∈ rs, sameK r x = false) → (x ∈ putsL rs l ↔ x ∈ l)
  | [], _, _, _, _ => Iff.rfl
  | r :: rs, l, x, h, hn => by
    show x ∈ putsL rs (putL r l) ↔ _
    rw [puts_keep rs _ x (rises_put r l h) (fun q hq => hn q (List.mem_cons_of_mem _ hq)), mem_put r x l h]
    have h9 := hn r List.mem_cons_self
    constructor
    · rintro (e | e)
      · subst e
        have : sameK x x = true := (sameK_iff x x).2 ⟨rfl, rfl, rfl⟩
        rw [this] at h9
        cases h9
      · exact e.1
    · exact fun e => .inr ⟨e, h9⟩
theorem puts_mem : ∀ (rs : List Rt) (l : List Rt) (x : Rt), RisesR rs → RisesR l → (x ∈ putsL rs l ↔ x ∈ rs ∨ (x ∈ l ∧ ∀ r ∈ rs, sameK r x = false))
  | [], l, x, _, _ => by simp [putsL]
  | r :: rs, l, x, hr, h => by
    have hr1 := List.pairwise_cons.1 hr
    show x ∈ putsL rs (putL r l) ↔ _
    rw [puts_mem rs _ x hr1.2 (rises_put r l h), mem_put r x l h]
    simp only [List.mem_cons, forall_eq_or_imp]
    constructor
    · rintro (e | ⟨e | e, e2⟩)
      · exact .inl (.inr e)
      · exact .inl (.inl e)
      · exact .inr ⟨e.1, e.2, e2⟩
    · rintro ((e | e) | ⟨e, e2, e3⟩)
      · subst e
        exact .inr ⟨.inl rfl, fun q hq => ahead_unlike' (hr1.1 q hq)⟩
      · exact .inl e
      · exact .inr ⟨.inr ⟨e, e2⟩, e3⟩
theorem eqA_is {a b : At} (h : eqA a b = true) : a = b := by
  unfold eqA eqHead eqP at h
  simp only [Bool.and_eq_true, decide_eq_true_eq] at h
  obtain ⟨⟨⟨⟨⟨⟨⟨⟨h1, h2⟩, h3⟩, h4⟩, h5⟩, _⟩, _⟩, h6⟩, h7⟩ := h
  cases a
  cases b
  simp only at *
  subst h1 h2 h3 h4 h5 h6 h7
  rfl
/-- Whoever knows the elder things, and takes the Updates, knows the newer ones. -/
theorem played (old fresh : List Tl) (f : Array Value → At) (ho : RisesL old) (hf : RisesL fresh) :
    putsL ((newL old fresh f).map (rtF f)) (dropsL (goneL old fresh) (old.map (rtF f))) = fresh.map (rtF f) := by
  have hnew : RisesL (newL old fresh f) := by unfold RisesL newL at *; exact hf.filter _
  have hd := drops_rises (goneL old fresh) _ (rises_rtF f old ho)
  refine rises_eq _ _ (puts_rises _ _ hd) (rises_rtF f fresh hf) fun x => ?_
  rw [puts_mem _ _ x (rises_rtF f _ hnew) hd, drops_mem]
  have hold : ∀ s ∈ fresh, newB old f s = false → ∃ t ∈ old, t.A = s.A ∧ t.L = s.L ∧ f t.C = f s.C := fun s _ hs => by
    unfold newB at hs
    cases hb : byP old s.A s.L with
    | none => rw [hb] at hs; simp at hs
    | some C =>
      rw [hb] at hs
      obtain ⟨t, ht, h1, h2, h3⟩ := byP_mem old _ _ _ hb
      refine ⟨t, ht, h1, h2, ?_⟩
      have : eqA (f C) (f s.C) = true := by simpa [foundC] using hs
      rw [h3]
      exact eqA_is this
  constructor
  · rintro (h | ⟨⟨h, hg⟩, hn⟩)
    · obtain ⟨t, ht, rfl⟩ := List.mem_map.1 h
      exact List.mem_map.2 ⟨t, (List.mem_filter.1 ht).1, rfl⟩
    · obtain ⟨t, ht, rfl⟩ := List.mem_map.1 h
      cases hb : byP fresh t.A t.L with
      | none =>
        have hm : (t.A, t.L) ∈ goneL old fresh := List.mem_map.2 ⟨t, List.mem_filter.2 ⟨ht, by unfold goneB; rw [hb]; rfl⟩, rfl⟩
        have h9 := hg _ hm
        have : Go.Proofs.YthigjonagbfbbaaDoor.gone t.A t.L 0 (rtF f t) = true := by simp [Go.Proofs.YthigjonagbfbbaaDoor.gone, rtF]
        rw [this] at h9
        cases h9
      | some C =>
        obtain ⟨s, hs, h1, h2, h3⟩ := byP_mem fresh _ _ _ hb
        cases hnb : newB old f s with
        | true =>
          have h9 := hn (rtF f s) (List.mem_map.2 ⟨s, List.mem_filter.2 ⟨hs, hnb⟩, rfl⟩)
          have : sameK (rtF f s) (rtF f t) = true := (sameK_iff _ _).2 ⟨h1.symm, h2.symm, rfl⟩
          rw [this] at h9
          cases h9
        | false =>
          obtain ⟨t2, ht2, g1, g2, g3⟩ := hold s hs hnb
          have : t2 = t := rises_key ho ht2 ht (by omega) (by omega)
          subst this
          refine List.mem_map.2 ⟨s, hs, ?_⟩
          unfold rtF
          rw [h1, h2, g3]
  · intro h
    obtain ⟨s, hs, rfl⟩ := List.mem_map.1 h
    cases hnb : newB old f s with
    | true => exact .inl (List.mem_map.2 ⟨s, List.mem_filter.2 ⟨hs, hnb⟩, rfl⟩)
    | false =>
      obtain ⟨t, ht, g1, g2, g3⟩ := hold s hs hnb
      refine .inr ⟨⟨List.mem_map.2 ⟨t, ht, by unfold rtF; rw [g1, g2, g3]⟩, fun p hp => ?_⟩, fun r hr => ?_⟩
      · obtain ⟨u, hu, rfl⟩ := List.mem_map.1 hp
        have hu2 := (List.mem_filter.1 hu).2
        have hno : byP fresh u.A u.L = none := by unfold goneB at hu2; simpa using hu2
        have h9 := (byP_no fresh _ _).1 hno s hs
        cases hgo : Go.Proofs.YthigjonagbfbbaaDoor.gone u.A u.L 0 (rtF f s) with
        | false => rfl
        | true =>
          unfold Go.Proofs.YthigjonagbfbbaaDoor.gone rtF at hgo
          simp only [Bool.and_eq_true, decide_eq_true_eq] at hgo
          exact absurd ⟨hgo.1.1, hgo.1.2⟩ h9
      · obtain ⟨u, hu, rfl⟩ := List.mem_map.1 hr
        have hu2 := List.mem_filter.1 hu
        cases hsk : sameK (rtF f u) (rtF f s) with
        | false => rfl
        | true =>
          have h8 := (sameK_iff _ _).1 hsk
          have : u = s := rises_key hf hu2.1 hs h8.1.symm h8.2.1.symm
          subst this
          rw [hnb] at hu2
          cases hu2.2
/-- Of what is told already there is nothing to tell. -/
theorem delta_self (l : List Tl) (f : Array Value → At) (h : RisesL l) : deltaU l l f = [] := by
  have h1 : goneL l l = [] := by
    unfold goneL
    rw [List.map_eq_nil_iff, List.filter_eq_nil_iff]
    intro t ht h9
    unfold goneB at h9
    rw [byP_here h ht] at h9
    cases h9
  have h2 : newL l l f = [] := by
    unfold newL
    rw [List.filter_eq_nil_iff]
    intro t ht h9
    unfold newB at h9
    rw [byP_here h ht] at h9
    simp [foundC, eqA_self] at h9
  unfold deltaU
  rw [h1, h2]
  rfl
end Go.Proofs.YthigjonagbfbbaaDoor
