/- The document's Flush. -/
import Derived.Test.YtbecchoidglaeaaRWrite
import Derived.BigRegion
namespace Go.Proofs.Ytbecchoidglaeaa
open Go.RowKit
set_option maxRecDepth 100000

section
variable {w : World} {V : Nat} {sv lv : Value} {pgs : List Value} {lps : List (Nat × Value)} {P : Nat → Prop} {s : St}
set_option maxHeartbeats 400000 in
theorem rflush_down (h : RefIn w V sv lv pgs lps P s) (hp : s.power = false) :
    Calls Try.prog 44 #[.pointer (some ⟨V, 0, none⟩)] w fun e w' => e = .returned (.int .i64 4) ∧ RefIn w' V sv lv pgs lps P s.spent ∧ Keeps (fun b => b = V) w w' := by
  have c2 := h.c2
  have c3 := h.c3
  have f3 := h.fz 3
  have hs := St.fz_of_down hp
  have HD := hide (h.downSet hp)
  clear h hp
  rcases hs.1 with h1 | ⟨h1, h2⟩
  · rw [h1] at c3
    clear hs h1
    go_enter Try.func44, Try.ntmps44
    go_wp2
    go_ret
    exact ⟨rfl, HD.out, (Keeps.refl _ _).setCell V 3 _ (.inl rfl)⟩
  · rw [h1] at c3
    rw [h2] at c2
    clear hs h1 h2
    go_enter Try.func44, Try.ntmps44
    go_wp2
    go_ret
    exact ⟨rfl, HD.out, (Keeps.refl _ _).setCell V 3 _ (.inl rfl)⟩
end
/-- One page stored, as 'lay' says it. -/
theorem RefIn.layPage {w : World} {V g cap n : Nat} {lv : Value} {pgs : List Value} {lps : List (Nat × Value)} {P : Nat → Prop} {s : St} {G : Nat → Nat → Nat} (h : RefIn w V (.slice (some ⟨g, 0, none⟩) n cap) lv pgs lps P (s.lastly G)) (x : Nat × (Nat → Nat)) (hx : x.1 < s.n) (v : Value) (m : Nat) (f : Nat → Nat) (hv : PageAt w P v f)
    (hf : ∀ j, j < 64 → f j = if j < m then x.2 j else G x.1 j) : ∃ pgs', RefIn (w.setCell ⟨g, x.1, none⟩ v) V (.slice (some ⟨g, 0, none⟩) n cap) lv pgs' lps P (s.lastly (putPage G x.1 m x.2)) := by
  have h1 := h.setPage x.1 hx v f hv
  refine ⟨_, h1.congr _ (fun i hi j hj => ?_)⟩
  show (if i = x.1 then f else G i) j = putPage G x.1 m x.2 i j
  unfold putPage
  by_cases e : i = x.1
  · subst e
    rw [if_pos rfl, hf j hj]
    by_cases e2 : j < m
    · rw [if_pos e2, if_pos ⟨rfl, e2⟩]
    · rw [if_neg e2, if_neg (fun h => e2 h.2)]
  · rw [if_neg e, if_neg (fun h => e h.1)]
/-- What holds when k of the loose ones have landed. -/
def FlushAt (w wq : World) (V : Nat) (sv lv : Value) (lps : List (Nat × Value)) (P : Nat → Prop) (s : St) (k : Nat) : Prop :=
  ∃ pgs, RefIn wq V sv lv pgs lps P (s.lastly (lay (fun _ => 64) s.lo s.lasts k)) ∧ Keeps (fun b => b = V ∨ sv.ownBlock = some b) w wq
theorem flushAt_step {w Y : World} {V sg sc : Nat} {lv v : Value} {pgs : List Value} {lps : List (Nat × Value)} {P : Nat → Prop} {s : St} {k n : Nat} (hd : RefIn Y V (.slice (some ⟨sg, 0, none⟩) n sc) lv pgs lps P (s.lastly (lay (fun _ => 64) s.lo s.lasts k)))
    (hk : Keeps (fun b => b = V ∨ (Value.slice (some ⟨sg, 0, none⟩) n sc).ownBlock = some b) w Y) (x : Nat × (Nat → Nat)) (hx : s.lo[k]? = some x) (hxn : x.1 < s.n) (hv : PageAt Y P v x.2) :
    FlushAt w (Y.setCell ⟨sg, x.1, none⟩ v) V (.slice (some ⟨sg, 0, none⟩) n sc) lv lps P s (k + 1) := by
  obtain ⟨pgs', h'⟩ := hd.layPage x hxn v 64 x.2 hv (fun j hj => by rw [if_pos hj])
  refine ⟨pgs', ?_, hk.setCell _ _ _ (.inl (.inr rfl))⟩
  rw [lay_succ _ _ _ k x hx]
  exact h'
theorem flushAt_end {w Y : World} {V : Nat} {sv lv : Value} {pgs : List Value} {lps : List (Nat × Value)} {P : Nat → Prop} {s : St} (hd : RefIn Y V sv lv pgs lps P (s.lastly (lay (fun _ => 64) s.lo s.lasts s.lo.length)))
    (hk : Keeps (fun b => b = V ∨ sv.ownBlock = some b) w Y) :
    ∃ W' P', RDisk (Y.setCell ⟨V, 1, none⟩ (.slice none 0 0)) V s.flush W' P' ∧ RStep (rfoot V sv lv) P W' P' w (Y.setCell ⟨V, 1, none⟩ (.slice none 0 0)) := by
  have h1 := hd.turnLoose (lps1 := []) (Q := P) (Keeps.refl (fun _ => False) _) (fun _ _ h => h.elim) [] (lv1 := .slice none 0 0) ⟨rfl, .inl ⟨rfl, rfl⟩⟩ (fun b e => by simp [Value.ownBlock] at e) (fun b hb => hb) hd.plt (fun b hb => .inl hb) (fun b hb => by simp [Value.ownBlock]) (fun k x hx => by simp at hx) (fun x hx => by simp at hx) (by simp)
  refine ⟨_, P, ⟨_, _, _, _, h1, rfl⟩, ?_, fun b hb => ?_, fun b hb => .inl hb⟩
  · refine Keeps.setCell ?_ V 1 _ (.inl (.inl rfl))
    exact hk.mono (fun b _ e => by rcases e with e | e; exact .inl e; exact .inr (.inl e))
  · rcases hb with hb | hb | hb
    · exact .inl (.inl hb)
    · exact .inl (.inr (.inl hb))
    · simp [Value.ownBlock] at hb

set_option maxRecDepth 100000 in
set_option maxHeartbeats 1600000 in
theorem rflush_in {w : World} {V : Nat} {sv lv : Value} {pgs : List Value} {lps : List (Nat × Value)} {P : Nat → Prop} {s : St} (h : RefIn w V sv lv pgs lps P s) (hp : s.power = true) :
    Calls Try.prog 44 #[.pointer (some ⟨V, 0, none⟩)] w fun e w' =>
      e = .returned (.int .i64 0) ∧ ∃ W' P', RDisk w' V s.spent.flush W' P' ∧ RStep (rfoot V sv lv) P W' P' w w' := by
  have c2 := h.c2
  have c3 := h.c3
  have f2 := h.fz 2
  have hs := St.fz_of_power hp
  rw [hs.1] at c3
  have H := hide h
  have hnb : s.lo.length ≤ 1000000 := h.many
  obtain ⟨la, lc, hlv, hla⟩ := h.lform
  have HL := hide hla
  have HLV := hide hlv
  clear h hla hp hlv
  rcases hs.2 with ⟨h1, h2, h3⟩ | ⟨h1, h2, h3, h4, h5⟩
  · rw [h2] at c2
    have HS := hide h3
    clear hs h1 h2 h3
    go_enter Try.func44, Try.ntmps44
    go_wp2
    go_loopw [3] (fun i wq => ∃ k : Nat, k ≤ s.lo.length ∧ i = .int .i64 k ∧ FlushAt w wq V sv lv lps P s k) (fun i _ => s.lo.length - (intOf i).toNat)
    case atStart => exact ⟨0, Nat.zero_le _, rfl, pgs, H.out, Keeps.refl _ _⟩
    case round =>
      obtain ⟨k, hk, rfl, pgs1, hd, hkp⟩ := hrel
      clear c2 c3 f2 H
      by_cases hlt : k < s.lo.length
      · obtain ⟨g, rfl⟩ := HL.out (by omega)
        obtain ⟨x, hx⟩ : ∃ x, s.lo[k]? = some x := ⟨_, List.getElem?_eq_getElem hlt⟩
        have hxn : x.1 < s.n := hd.ats x (List.mem_of_getElem? hx)
        obtain ⟨sa, sc, hsv, hsa⟩ := hd.sform
        obtain ⟨sg, rfl⟩ := hsa (show 0 < s.n by omega)
        have hlv := HLV.out
        subst hlv
        subst hsv
        obtain ⟨v, l0, l1, hpg⟩ := hd.loose k x hx
        obtain ⟨vb, vo, vc, rfl, hvc, hpb, hvf⟩ := hpg
        obtain ⟨u, su, _⟩ := hd.page x.1 hxn
        have sf : wr.frozen? ⟨sg, x.1, none⟩ = false := hd.so.frozenAt x.1
        have c0 : wr.cell? ⟨V, 0, none⟩ = some (.slice (some ⟨sg, 0, none⟩) s.n sc) := hd.c0
        have c1 := hd.c1
        have HX := hide hx
        have HD1 := hide hd
        have HK1 := hide hkp
        have HV := hide (show PageAt wr P _ x.2 from ⟨vb, vo, vc, rfl, hvc, hpb, hvf⟩)
        have hx0 : (0 : Int) ≤ (x.1 : Int) := Int.natCast_nonneg _
        have hx1 : (x.1 : Int) < (s.n : Int) := by omega
        have hk0 : (0 : Int) ≤ (k : Int) := Int.natCast_nonneg _
        have hk1 : (k : Int) < (s.lo.length : Int) := by omega
        clear hd hkp hx hpb hvf
        go_wp2_with fail
        go_region
        all_goals (go_wp2; exact ⟨⟨k + 1, by omega, by go_num, flushAt_step (HD1.out.drew) (HK1.out.drew) x HX.out hxn (HV.out.keeps (G := fun _ => False) (Keeps.refl _ _).drew (fun _ _ h => h))⟩, by simp [intOf]; omega⟩)
      · have c1 := hd.c1
        rw [HLV.out] at c1
        have f1 := hd.fz 1
        have hkn : k = s.lo.length := by omega
        have HD1 := hide hd
        have HK1 := hide hkp
        have HKN := hide hkn
        clear hd hkp hkn
        go_wp2
        go_ret
        refine ⟨rfl, ?_⟩
        rw [HS.out]
        have hh := HD1.out
        rw [HKN.out] at hh
        exact flushAt_end hh HK1.out
  · rw [h3] at c2
    have HS : Hid (s.spent.fz = (s.left : Int) - 1 ∧ s.spent.down = false) := ⟨h4, h5⟩
    have HD0 := hide hs.1
    have hsm : s.left < 9223372036854775808 := H.out.small
    have hl0 : (0 : Int) < (s.left : Int) := by omega
    have e0 : ((s.left : Int) == 0) = false := by rw [beq_eq_false_iff_ne]; omega
    clear hs h1 h3 h4 h5
    go_enter Try.func44, Try.ntmps44
    go_wp2
    have XD : Hid (RefIn (w.setCell ⟨V, 2, none⟩ (.int .i64 ((s.left : Int) - 1))) V sv lv pgs lps P s.spent) := by
      have hb := heap_set_at w V 2 _ _ _ (.int .i64 ((s.left : Int) - 1)) H.out.block
      refine H.out.fuseSet s.spent rfl rfl rfl (by have := s.spent_left; omega) _ ((Keeps.refl _ _).setCell V 2 _ (.inl rfl)) ?_
      rw [HS.out.1, HS.out.2]
      rw [HD0.out] at hb
      exact hb
    have XK : Hid (Keeps (fun b => b = V) w (w.setCell ⟨V, 2, none⟩ (.int .i64 ((s.left : Int) - 1)))) := (Keeps.refl _ _).setCell V 2 _ (.inl rfl)
    clear c2 c3 f2 H HS HD0
    generalize w.setCell ⟨V, 2, none⟩ (.int .i64 ((s.left : Int) - 1)) = X at *
    go_loopw [3] (fun i wq => ∃ k : Nat, k ≤ s.lo.length ∧ i = .int .i64 k ∧ FlushAt w wq V sv lv lps P s.spent k) (fun i _ => s.lo.length - (intOf i).toNat)
    case atStart => exact ⟨0, Nat.zero_le _, rfl, pgs, XD.out, XK.out.mono (fun _ _ h => .inl h)⟩
    case round =>
      obtain ⟨k, hk, rfl, pgs1, hd, hkp⟩ := hrel
      clear XD XK
      by_cases hlt : k < s.lo.length
      · obtain ⟨g, rfl⟩ := HL.out (by omega)
        obtain ⟨x, hx⟩ : ∃ x, s.lo[k]? = some x := ⟨_, List.getElem?_eq_getElem hlt⟩
        have hxn : x.1 < s.n := hd.ats x (List.mem_of_getElem? (show s.spent.lo[k]? = some x from hx))
        obtain ⟨sa, sc, hsv, hsa⟩ := hd.sform
        obtain ⟨sg, rfl⟩ := hsa (show 0 < s.n by omega)
        have hlv := HLV.out
        subst hlv
        subst hsv
        obtain ⟨v, l0, l1, hpg⟩ := hd.loose k x hx
        obtain ⟨vb, vo, vc, rfl, hvc, hpb, hvf⟩ := hpg
        obtain ⟨u, su, _⟩ := hd.page x.1 hxn
        have sf : wr.frozen? ⟨sg, x.1, none⟩ = false := hd.so.frozenAt x.1
        have c0 : wr.cell? ⟨V, 0, none⟩ = some (.slice (some ⟨sg, 0, none⟩) s.n sc) := hd.c0
        have c1 : wr.cell? ⟨V, 1, none⟩ = some (.slice (some ⟨g, 0, none⟩) s.lo.length lc) := hd.c1
        have HX := hide hx
        have HD1 := hide hd
        have HK1 := hide hkp
        have HV := hide (show PageAt wr P _ x.2 from ⟨vb, vo, vc, rfl, hvc, hpb, hvf⟩)
        have hx0 : (0 : Int) ≤ (x.1 : Int) := Int.natCast_nonneg _
        have hx1 : (x.1 : Int) < (s.n : Int) := by omega
        have hk0 : (0 : Int) ≤ (k : Int) := Int.natCast_nonneg _
        have hk1 : (k : Int) < (s.lo.length : Int) := by omega
        clear hd hkp hx hpb hvf
        go_wp2_with fail
        go_region
        all_goals (go_wp2; exact ⟨⟨k + 1, by omega, by go_num, flushAt_step (HD1.out.drew) (HK1.out.drew) x HX.out hxn (HV.out.keeps (G := fun _ => False) (Keeps.refl _ _).drew (fun _ _ h => h))⟩, by simp [intOf]; omega⟩)
      · have c1 := hd.c1
        rw [HLV.out] at c1
        have f1 := hd.fz 1
        have hkn : k = s.lo.length := by omega
        have HD1 := hide hd
        have HK1 := hide hkp
        have HKN := hide hkn
        clear hd hkp hkn
        go_wp2
        go_ret
        refine ⟨rfl, ?_⟩
        have hh : RefIn wr V sv lv pgs1 lps P (s.spent.lastly (lay (fun _ => 64) s.spent.lo s.spent.lasts s.spent.lo.length)) := by
          have := HD1.out
          rw [HKN.out] at this
          exact this
        exact flushAt_end hh HK1.out
end Go.Proofs.Ytbecchoidglaeaa
