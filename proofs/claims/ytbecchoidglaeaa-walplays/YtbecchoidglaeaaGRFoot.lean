/- The document's Flush. -/
import Derived.Test.YtbecchoidglaeaaRWrite
import Derived.BigRegion
namespace Go.Proofs.Ytbecchoidglaeaa
open Go.RowKit
set_option maxRecDepth 100000

section
variable {w : World} {V : Nat} {sv lv : Value} {pgs : List Value} {lps : List (Nat × Value)} {P : Nat → Prop} {s : St}
set_option maxHeartbeats 400000 in
theorem rflush_down (h : RefIn w V sv lv pgs lps P s) (hp : s.power = false) :
    Calls Try.prog 44 #[.pointer (some ⟨V, 0, none⟩)] w fun e w' => e = .returned (.int .i64 4) ∧ RefIn w' V sv lv pgs lps P s.spent ∧ Keeps (fun b => b = V) w w' := by
  have c2 := h.c2
  have c3 := h.c3
  have f3 := h.fz 3
  have hs := St.fz_of_down hp
  have HD := hide (h.downSet hp)
  clear h hp
  rcases hs.1 with h1 | ⟨h1, h2⟩
  · rw [h1] at c3
    clear hs h1
    go_enter Try.func44, Try.ntmps44
    go_wp2
    go_ret
    exact ⟨rfl, HD.out, (Keeps.refl _ _).setCell V 3 _ (.inl rfl)⟩
  · rw [h1] at c3
    rw [h2] at c2
    clear hs h1 h2
    go_enter Try.func44, Try.ntmps44
    go_wp2
    go_ret
    exact ⟨rfl, HD.out, (Keeps.refl _ _).setCell V 3 _ (.inl rfl)⟩
end
/-- One page stored, as 'lay' says it. -/
theorem RefIn.layPage {w : World} {V g cap n : Nat} {lv : Value} {pgs : List Value} {lps : List (Nat × Value)} {P : Nat → Prop} {s : St} {G : Nat → Nat → Nat} (h : RefIn w V (.slice (some ⟨g, 0, none⟩) n cap) lv pgs lps P (s.lastly G)) (x : Nat × (Nat → Nat)) (hx : x.1 < s.n) (v : Value) (m : Nat) (f : Nat → Nat) (hv : PageAt w P v f)
    (hf : ∀ j, j < 64 → f j = if j < m then x.2 j else G x.1 j) : ∃ pgs', RefIn (w.setCell ⟨g, x.1, none⟩ v) V (.slice (some ⟨g, 0, none⟩) n cap) lv pgs' lps P (s.lastly (putPage G x.1 m x.2)) := by
  have h1 := h.setPage x.1 hx v f hv
  refine ⟨_, h1.congr _ (fun i hi j hj => ?_)⟩
  show (if i = x.1 then f else G i) j = putPage G x.1 m x.2 i j
  unfold putPage
  by_cases e : i = x.1
  · subst e
    rw [if_pos rfl, hf j hj]
    by_cases e2 : j < m
    · rw [if_pos e2, if_pos ⟨rfl, e2⟩]
    · rw [if_neg e2, if_neg (fun h => e2 h.2)]
  · rw [if_neg e, if_neg (fun h => e h.1)]
/-- What holds when k of the loose ones have landed. -/
def FlushAt (w wq : World) (V : Nat) (sv lv : Value) (lps : List (Nat × Value)) (P : Nat → Prop) (s : St) (k : Nat) : Prop :=
  ∃ pgs, RefIn wq V sv lv pgs lps P (s.lastly (lay (fun _ => 64) s.lo s.lasts k)) ∧ Keeps (fun b => b = V ∨ sv.ownBlock = some b) w wq
theorem flushAt_step {w Y : World} {V sg sc : Nat} {lv v : Value} {pgs : List Value} {lps : List (Nat × Value)} {P : Nat → Prop} {s : St} {k n : Nat} (hd : RefIn Y V (.slice (some ⟨sg, 0, none⟩) n sc) lv pgs lps P (s.lastly (lay (fun _ => 64) s.lo s.lasts k)))
    (hk : Keeps (fun b => b = V ∨ (Value.slice (some ⟨sg, 0, none⟩) n sc).ownBlock = some b) w Y) (x : Nat × (Nat → Nat)) (hx : s.lo[k]? = some x) (hxn : x.1 < s.n) (hv : PageAt Y P v x.2) :
    FlushAt w (Y.setCell ⟨sg, x.1, none⟩ v) V (.slice (some ⟨sg, 0, none⟩) n sc) lv lps P s (k + 1) := by
  obtain ⟨pgs', h'⟩ := hd.layPage x hxn v 64 x.2 hv (fun j hj => by rw [if_pos hj])
  refine ⟨pgs', ?_, hk.setCell _ _ _ (.inl (.inr rfl))⟩
  rw [lay_succ _ _ _ k x hx]
  exact h'
theorem flushAt_end {w Y : World} {V : Nat} {sv lv : Value} {pgs : List Value} {lps : List (Nat × Value)} {P : Nat → Prop} {s : St} (hd : RefIn Y V sv lv pgs lps P (s.lastly (lay (fun _ => 64) s.lo s.lasts s.lo.length)))
    (hk : Keeps (fun b => b = V ∨ sv.ownBlock = some b) w Y) :
    ∃ W' P', RDisk (Y.setCell ⟨V, 1, none⟩ (.slice none 0 0)) V s.flush W' P' ∧ RStep (rfoot V sv lv) P W' P' w (Y.setCell ⟨V, 1, none⟩ (.slice none 0 0)) := by
  have h1 := hd.turnLoose (lps1 := []) (Q := P) (Keeps.refl (fun _ => False) _) (fun _ _ h => h.elim) [] (lv1 := .slice none 0 0) ⟨rfl, .inl ⟨rfl, rfl⟩⟩ (fun b e => by simp [Value.ownBlock] at e) (fun b hb => hb) hd.plt (fun b hb => .inl hb) (fun b hb => by simp [Value.ownBlock]) (fun k x hx => by simp at hx) (fun x hx => by simp at hx) (by simp)
  refine ⟨_, P, ⟨_, _, _, _, h1, rfl⟩, ?_, fun b hb => ?_, fun b hb => .inl hb⟩
  · refine Keeps.setCell ?_ V 1 _ (.inl (.inl rfl))
    exact hk.mono (fun b _ e => by rcases e with e | e; exact .inl e; exact .inr (.inl e))
  · rcases hb with hb | hb | hb
    · exact .inl (.inl hb)
    · exact .inl (.inr (.inl hb))
    · simp [Value.ownBlock] at hb

set_option maxRecDepth 100000 in
set_option maxHeartbeats 1600000 in
theorem rflush_in {w : World} {V : Nat} {sv lv : Value} {pgs : List Value} {lps : List (Nat × Value)} {P : Nat → Prop} {s : St} (h : RefIn w V sv lv pgs lps P s) (hp : s.power = true) :
    Calls Try.prog 44 #[.pointer (some ⟨V, 0, none⟩)] w fun e w' =>
      e = .returned (.int .i64 0) ∧ ∃ W' P', RDisk w' V s.spent.flush W' P' ∧ RStep (rfoot V sv lv) P W' P' w w' := by
  have c2 := h.c2
  have c3 := h.c3
  have f2 := h.fz 2
  have hs := St.fz_of_power hp
  rw [hs.1] at c3
  have H := hide h
  have hnb : s.lo.length ≤ 1000000 := h.many
  obtain ⟨la, lc, hlv, hla⟩ := h.lform
  have HL := hide hla
  have HLV := hide hlv
  clear h hla hp hlv
  rcases hs.2 with ⟨h1, h2, h3⟩ | ⟨h1, h2, h3, h4, h5⟩
  · rw [h2] at c2
    have HS := hide h3
    clear hs h1 h2 h3
    go_enter Try.func44, Try.ntmps44
    go_wp2
    go_loopw [3] (fun i wq => ∃ k : Nat, k ≤ s.lo.length ∧ i = .int .i64 k ∧ FlushAt w wq V sv lv lps P s k) (fun i _ => s.lo.length - (intOf i).toNat)
    case atStart => exact ⟨0, Nat.zero_le _, rfl, pgs, H.out, Keeps.refl _ _⟩
    case round =>
      obtain ⟨k, hk, rfl, pgs1, hd, hkp⟩ := hrel
      clear c2 c3 f2 H
      by_cases hlt : k < s.lo.length
      · obtain ⟨g, rfl⟩ := HL.out (by omega)
        obtain ⟨x, hx⟩ : ∃ x, s.lo[k]? = some x := ⟨_, List.getElem?_eq_getElem hlt⟩
        have hxn : x.1 < s.n := hd.ats x (List.mem_of_getElem? hx)
        obtain ⟨sa, sc, hsv, hsa⟩ := hd.sform
        obtain ⟨sg, rfl⟩ := hsa (show 0 < s.n by omega)
        have hlv := HLV.out
        subst hlv
        subst hsv
        obtain ⟨v, l0, l1, hpg⟩ := hd.loose k x hx
        obtain ⟨vb, vo, vc, rfl, hvc, hpb, hvf⟩ := hpg
        obtain ⟨u, su, _⟩ := hd.page x.1 hxn
        have sf : wr.frozen? ⟨sg, x.1, none⟩ = false := hd.so.frozenAt x.1
        have c0 : wr.cell? ⟨V, 0, none⟩ = some (.slice (some ⟨sg, 0, none⟩) s.n sc) := hd.c0
        have c1 := hd.c1
        have HX := hide hx
        have HD1 := hide hd
        have HK1 := hide hkp
        have HV := hide (show PageAt wr P _ x.2 from ⟨vb, vo, vc, rfl, hvc, hpb, hvf⟩)
        have hx0 : (0 : Int) ≤ (x.1 : Int) := Int.natCast_nonneg _
        have hx1 : (x.1 : Int) < (s.n : Int) := by omega
        have hk0 : (0 : Int) ≤ (k : Int) := Int.natCast_nonneg _
        have hk1 : (k : Int) < (s.lo.length : Int) := by omega
        clear hd hkp hx hpb hvf
        go_wp2_with fail
        go_region
        all_goals (go_wp2; exact ⟨⟨k + 1, by omega, by go_num, flushAt_step (HD1.out.drew) (HK1.out.drew) x HX.out hxn (HV.out.keeps (G := fun _ => False) (Keeps.refl _ _).drew (fun _ _ h => h))⟩, by simp [intOf]; omega⟩)
      · have c1 := hd.c1
        rw [HLV.out] at c1
        have f1 := hd.fz 1
        have hkn : k = s.lo.length := by omega
        have HD1 := hide hd
        have HK1 := hide hkp
        have HKN := hide hkn
        clear hd hkp hkn
        go_wp2
        go_ret
        refine ⟨rfl, ?_⟩
        rw [HS.out]
        have hh := HD1.out
        rw [HKN.out] at hh
        exact flushAt_end hh HK1.out
  · rw [h3] at c2
    have HS : Hid (s.spent.fz = (s.left : Int) - 1 ∧ s.spent.down = false) := ⟨h4, h5⟩
    have HD0 := hide hs.1
    have hsm : s.left < 9223372036854775808 := H.out.small
    have hl0 : (0 : Int) < (s.left : Int) := by omega
    have e0 : ((s.left : Int) == 0) = false := by rw [beq_eq_false_iff_ne]; omega
    clear hs h1 h3 h4 h5
    go_enter Try.func44, Try.ntmps44
    go_wp2
    have XD : Hid (RefIn (w.setCell ⟨V, 2, none⟩ (.int .i64 ((s.left : Int) - 1))) V sv lv pgs lps P s.spent) := by
      have hb := heap_set_at w V 2 _ _ _ (.int .i64 ((s.left : Int) - 1)) H.out.block
      refine H.out.fuseSet s.spent rfl rfl rfl (by have := s.spent_left; omega) _ ((Keeps.refl _ _).setCell V 2 _ (.inl rfl)) ?_
      rw [HS.out.1, HS.out.2]
      rw [HD0.out] at hb
      exact hb
    have XK : Hid (Keeps (fun b => b = V) w (w.setCell ⟨V, 2, none⟩ (.int .i64 ((s.left : Int) - 1)))) := (Keeps.refl _ _).setCell V 2 _ (.inl rfl)
    clear c2 c3 f2 H HS HD0
    generalize w.setCell ⟨V, 2, none⟩ (.int .i64 ((s.left : Int) - 1)) = X at *
    go_loopw [3] (fun i wq => ∃ k : Nat, k ≤ s.lo.length ∧ i = .int .i64 k ∧ FlushAt w wq V sv lv lps P s.spent k) (fun i _ => s.lo.length - (intOf i).toNat)
    case atStart => exact ⟨0, Nat.zero_le _, rfl, pgs, XD.out, XK.out.mono (fun _ _ h => .inl h)⟩
    case round =>
      obtain ⟨k, hk, rfl, pgs1, hd, hkp⟩ := hrel
      clear XD XK
      by_cases hlt : k < s.lo.length
      · obtain ⟨g, rfl⟩ := HL.out (by omega)
        obtain ⟨x, hx⟩ : ∃ x, s.lo[k]? = some x := ⟨_, List.getElem?_eq_getElem hlt⟩
        have hxn : x.1 < s.n := hd.ats x (List.mem_of_getElem? (show s.spent.lo[k]? = some x from hx))
        obtain ⟨sa, sc, hsv, hsa⟩ := hd.sform
        obtain ⟨sg, rfl⟩ := hsa (show 0 < s.n by omega)
        have hlv := HLV.out
        subst hlv
        subst hsv
        obtain ⟨v, l0, l1, hpg⟩ := hd.loose k x hx
        obtain ⟨vb, vo, vc, rfl, hvc, hpb, hvf⟩ := hpg
        obtain ⟨u, su, _⟩ := hd.page x.1 hxn
        have sf : wr.frozen? ⟨sg, x.1, none⟩ = false := hd.so.frozenAt x.1
        have c0 : wr.cell? ⟨V, 0, none⟩ = some (.slice (some ⟨sg, 0, none⟩) s.n sc) := hd.c0
        have c1 : wr.cell? ⟨V, 1, none⟩ = some (.slice (some ⟨g, 0, none⟩) s.lo.length lc) := hd.c1
        have HX := hide hx
        have HD1 := hide hd
        have HK1 := hide hkp
        have HV := hide (show PageAt wr P _ x.2 from ⟨vb, vo, vc, rfl, hvc, hpb, hvf⟩)
        have hx0 : (0 : Int) ≤ (x.1 : Int) := Int.natCast_nonneg _
        have hx1 : (x.1 : Int) < (s.n : Int) := by omega
        have hk0 : (0 : Int) ≤ (k : Int) := Int.natCast_nonneg _
        have hk1 : (k : Int) < (s.lo.length : Int) := by omega
        clear hd hkp hx hpb hvf
        go_wp2_with fail
        go_region
        all_goals (go_wp2; exact ⟨⟨k + 1, by omega, by go_num, flushAt_step (HD1.out.drew) (HK1.out.drew) x HX.out hxn (HV.out.keeps (G := fun _ => False) (Keeps.refl _ _).drew (fun _ _ h => h))⟩, by simp [intOf]; omega⟩)
      · have c1 := hd.c1
        rw [HLV.out] at c1
        have f1 := hd.fz 1
        have hkn : k = s.lo.length := by omega
        have HD1 := hide hd
        have HK1 := hide hkp
        have HKN := hide hkn
        clear hd hkp hkn
        go_wp2
        go_ret
        refine ⟨rfl, ?_⟩
        have hh : RefIn wr V sv lv pgs1 lps P (s.spent.lastly (lay (fun _ => 64) s.spent.lo s.spent.lasts s.spent.lo.length)) := by
          have := HD1.out
          rw [HKN.out] at this
          exact this
        exact flushAt_end hh HK1.out
end Go.Proofs.Ytbecchoidglaeaa
/- The document's Read. -/
namespace Go.Proofs.Ytbecchoidglaeaa
open Go.RowKit
set_option maxRecDepth 100000

/-- What Read has found when k of the loose ones were looked at: a page whose bytes are those of 'lay'. -/
def ReadAt (w : World) (P : Nat → Prop) (s : St) (i k : Nat) (v : Value) : Prop := PageAt w P v (lay (fun _ => 64) s.lo s.lasts k i)
theorem readAt_hit {w : World} {P : Nat → Prop} {s : St} {i k : Nat} {u : Value} (x : Nat × (Nat → Nat)) (hx : s.lo[k]? = some x) (hi : x.1 = i) (h : PageAt w P u x.2) : ReadAt w P s i (k + 1) u := by
  refine h.congr (fun j hj => ?_)
  rw [lay_succ _ _ _ k x hx]
  unfold putPage
  rw [if_pos ⟨hi.symm, hj⟩]
theorem readAt_miss {w : World} {P : Nat → Prop} {s : St} {i k : Nat} {v : Value} (x : Nat × (Nat → Nat)) (hx : s.lo[k]? = some x) (hi : ¬ x.1 = i) (h : ReadAt w P s i k v) : ReadAt w P s i (k + 1) v := by
  refine PageAt.congr h (fun j hj => ?_)
  rw [lay_succ _ _ _ k x hx]
  unfold putPage
  rw [if_neg (fun e => hi e.1.symm)]

set_option maxRecDepth 100000 in
set_option maxHeartbeats 1600000 in
theorem rread_in {w : World} {V : Nat} {sv lv : Value} {pgs : List Value} {lps : List (Nat × Value)} {P : Nat → Prop} {s : St} (h : RefIn w V sv lv pgs lps P s) (i : Nat) (hi : i < s.n) :
    Calls Try.prog 38 #[.pointer (some ⟨V, 0, none⟩), .int .i64 (i : Int)] w fun e w' =>
      ∃ v, e = .returned v ∧ PageAt w P v (lay (fun _ => 64) s.lo s.lasts s.lo.length i) ∧ w' = w := by
  have hnb : s.lo.length ≤ 1000000 := h.many
  obtain ⟨la, lc, hlv, hla⟩ := h.lform
  obtain ⟨sa, sc, hsv, hsa⟩ := h.sform
  obtain ⟨sg, rfl⟩ := hsa (by omega)
  subst hlv
  subst hsv
  have c0 := h.c0
  have c1 := h.c1
  obtain ⟨u, su, hpu⟩ := h.page i hi
  obtain ⟨ub, uo, uc, rfl, huc, hub, huf⟩ := hpu
  have HP0 : Hid (ReadAt w P s i 0 (.slice (some ⟨ub, uo, none⟩) 64 uc)) := ⟨ub, uo, uc, rfl, huc, hub, huf⟩
  have HA := hide hla
  have H := hide h
  have hi0 : (0 : Int) ≤ (i : Int) := Int.natCast_nonneg _
  have hi1 : (i : Int) < (s.n : Int) := by omega
  clear h hla hsa hub huf huc
  go_enter Try.func38, Try.ntmps38
  go_wp2
  go_loopw [5, 6] (fun v kk wq => ∃ k : Nat, k ≤ s.lo.length ∧ kk = .int .i64 k ∧ ReadAt w P s i k v ∧ wq = w) (fun _ kk _ => s.lo.length - (intOf kk).toNat)
  case atStart => exact ⟨0, Nat.zero_le _, rfl, HP0.out, rfl⟩
  case round =>
    clear HP0
    obtain ⟨k, hk, rfl, hrd, rfl⟩ := hrel
    have HRD := hide hrd
    clear hrd
    by_cases hlt : k < s.lo.length
    · obtain ⟨g, rfl⟩ := HA.out (by omega)
      obtain ⟨x, hx⟩ : ∃ x, s.lo[k]? = some x := ⟨_, List.getElem?_eq_getElem hlt⟩
      obtain ⟨v, l0, l1, hpg⟩ := H.out.loose k x hx
      have HX := hide hx
      have HV := hide hpg
      have hk0 : (0 : Int) ≤ (k : Int) := Int.natCast_nonneg _
      have hk1 : (k : Int) < (s.lo.length : Int) := by omega
      clear hx hpg
      by_cases hxi : x.1 = i
      · have e0 : ((x.1 : Int) == (i : Int)) = true := by rw [beq_iff_eq]; omega
        have HXI := hide hxi
        clear hxi
        go_wp2
        exact ⟨⟨k + 1, by omega, by go_num, readAt_hit x HX.out HXI.out HV.out, trivial⟩, by simp [intOf]; omega⟩
      · have e0 : ((x.1 : Int) == (i : Int)) = false := by rw [beq_eq_false_iff_ne]; omega
        have HXI := hide hxi
        clear hxi
        go_wp2
        exact ⟨⟨k + 1, by omega, by go_num, readAt_miss x HX.out HXI.out HRD.out, trivial⟩, by simp [intOf]; omega⟩
    · have hkn : k = s.lo.length := by omega
      have HKN := hide hkn
      clear hkn
      go_wp2
      go_ret
      have hh := HRD.out
      rw [HKN.out] at hh
      exact ⟨_, rfl, hh, rfl⟩
end Go.Proofs.Ytbecchoidglaeaa
/- The document's disk beside other memory of the call: its functions, with the blocks that they turn. -/
namespace Go.Proofs.Ytbecchoidglaeaa
open Go.RowKit
set_option maxRecDepth 100000

section
variable {w : World} {V : Nat} {s : St} {W P : Nat → Prop}
theorem rdisk_write (h : RDisk w V s W P) (i : Int) (hi0 : 0 ≤ i) (hi : i < s.n) (a : Option Addr) (len cap : Nat) (f : Nat → Nat) (hl : len ≤ 64) (hp : s.power = true)
    (hm : s.lo.length < 1000000) (hr : Rw w a len f) (ha : ∀ x, a = some x → 0 < len → x.block ≠ V) :
    Calls Try.prog 43 #[.pointer (some ⟨V, 0, none⟩), .int .i64 i, .slice a len cap] w fun e w' =>
      e = .returned (.int .i64 0) ∧ ∃ W' P', RDisk w' V (s.spent.write i.toNat (fill f len)) W' P' ∧ RStep W P W' P' w w' := by
  obtain ⟨i, rfl⟩ := Int.eq_ofNat_of_zero_le hi0
  obtain ⟨sv, lv, pgs, lps, h, rfl⟩ := h
  exact rwrite_in h i (by omega) a len cap f hl hp hm hr ha
theorem rstep_V {w w' : World} {V : Nat} {sv lv : Value} {pgs : List Value} {lps : List (Nat × Value)} {P : Nat → Prop} {s : St} (h : RefIn w' V sv lv pgs lps P s) (hk : Keeps (fun b => b = V) w w') :
    ∃ W' P', RDisk w' V s W' P' ∧ RStep (rfoot V sv lv) P W' P' w w' :=
  ⟨_, _, ⟨sv, lv, pgs, lps, h, rfl⟩, hk.mono (fun _ _ e => .inl e), fun _ hb => .inl hb, fun _ hb => .inl hb⟩
theorem rdisk_write_down (h : RDisk w V s W P) (i : Int) (hi0 : 0 ≤ i) (hi : i < s.n) (a : Option Addr) (len cap : Nat) (hl : len ≤ 64) (hp : s.power = false) :
    Calls Try.prog 43 #[.pointer (some ⟨V, 0, none⟩), .int .i64 i, .slice a len cap] w fun e w' =>
      e = .returned (.int .i64 4) ∧ ∃ W' P', RDisk w' V s.spent W' P' ∧ RStep W P W' P' w w' := by
  obtain ⟨i, rfl⟩ := Int.eq_ofNat_of_zero_le hi0
  obtain ⟨sv, lv, pgs, lps, h, rfl⟩ := h
  refine (rwrite_down h i (by omega) a len cap hl hp).mono ?_
  rintro e w' ⟨rfl, h', hk⟩
  exact ⟨rfl, rstep_V h' hk⟩
theorem rdisk_write_bad (h : RDisk w V s W P) (i : Int) (a : Option Addr) (len cap : Nat) (hb : ¬ (0 ≤ i ∧ i < s.n) ∨ 64 < len) :
    Calls Try.prog 43 #[.pointer (some ⟨V, 0, none⟩), .int .i64 i, .slice a len cap] w fun e w' => e = .returned (.int .i64 1) ∧ w' = w := by
  obtain ⟨sv, lv, pgs, lps, h, rfl⟩ := h
  exact rwrite_bad h i a len cap hb
theorem rdisk_flush (h : RDisk w V s W P) (hp : s.power = true) :
    Calls Try.prog 44 #[.pointer (some ⟨V, 0, none⟩)] w fun e w' => e = .returned (.int .i64 0) ∧ ∃ W' P', RDisk w' V s.spent.flush W' P' ∧ RStep W P W' P' w w' := by
  obtain ⟨sv, lv, pgs, lps, h, rfl⟩ := h
  exact rflush_in h hp
theorem rdisk_flush_down (h : RDisk w V s W P) (hp : s.power = false) :
    Calls Try.prog 44 #[.pointer (some ⟨V, 0, none⟩)] w fun e w' => e = .returned (.int .i64 4) ∧ ∃ W' P', RDisk w' V s.spent W' P' ∧ RStep W P W' P' w w' := by
  obtain ⟨sv, lv, pgs, lps, h, rfl⟩ := h
  refine (rflush_down h hp).mono ?_
  rintro e w' ⟨rfl, h', hk⟩
  exact ⟨rfl, rstep_V h' hk⟩
theorem rdisk_read (h : RDisk w V s W P) (i : Int) (hi0 : 0 ≤ i) (hi : i < s.n) :
    Calls Try.prog 38 #[.pointer (some ⟨V, 0, none⟩), .int .i64 i] w fun e w' => ∃ a cap, e = .returned (.slice a 64 cap) ∧ Rw w a 64 (lay (fun _ => 64) s.lo s.lasts s.lo.length i.toNat) ∧ w' = w := by
  obtain ⟨i, rfl⟩ := Int.eq_ofNat_of_zero_le hi0
  obtain ⟨sv, lv, pgs, lps, h, rfl⟩ := h
  refine (rread_in h i (by omega)).mono ?_
  rintro e w' ⟨v, rfl, hp, rfl⟩
  obtain ⟨a, cap, rfl, hr, _⟩ := hp.rw
  exact ⟨a, cap, rfl, hr, rfl⟩
/-- Fuse, set by hand: a number n, or 0. -/
theorem rdisk_fuse (h : RDisk w V s W P) (n : Int) (hn : n ≤ 9223372036854775807) (m : Int) (hm : m = (n.toNat : Int)) : RDisk (w.setCell ⟨V, 2, none⟩ (.int .i64 m)) V (s.fuse n) W P := by
  obtain ⟨sv, lv, pgs, lps, h, rfl⟩ := h
  subst hm
  have hb := heap_set_at w V 2 _ _ _ (.int .i64 (n.toNat : Int)) h.block
  exact ⟨sv, lv, pgs, lps, h.fuseSet (s.fuse n) rfl rfl rfl (by show n.toNat < _; omega) _ ((Keeps.refl _ _).setCell V 2 _ (.inl rfl)) hb, rfl⟩
theorem rdisk_fuse2 (h : RDisk w V s W P) (n : Int) (hn : n ≤ 9223372036854775807) (u : Value) (m : Int) (hm : m = (n.toNat : Int)) : RDisk ((w.setCell ⟨V, 2, none⟩ u).setCell ⟨V, 2, none⟩ (.int .i64 m)) V (s.fuse n) W P := by
  obtain ⟨sv, lv, pgs, lps, h, rfl⟩ := h
  subst hm
  have hb := heap_set_at w V 2 _ _ _ u h.block
  have hb2 := heap_set_at _ V 2 _ _ _ (.int .i64 (n.toNat : Int)) hb
  exact ⟨sv, lv, pgs, lps, h.fuseSet (s.fuse n) rfl rfl rfl (by show n.toNat < _; omega) _ (((Keeps.refl (fun b => b = V) _).setCell V 2 _ (.inl rfl)).setCell V 2 _ (.inl rfl)) hb2, rfl⟩
theorem rstep_set (h : RDisk w V s W P) {w' : World} (hk : Keeps (fun b => b = V) w w') : RStep W P W P w w' := by
  obtain ⟨sv, lv, pgs, lps, _, rfl⟩ := h
  exact ⟨hk.mono (fun _ _ e => .inl e), fun _ hb => .inl hb, fun _ hb => .inl hb⟩
theorem RDisk.looseLen (h : RDisk w V s W P) : ∃ a cap, w.cell? ⟨V, 1, none⟩ = some (.slice a s.lo.length cap) := by
  obtain ⟨sv, lv, pgs, lps, h, rfl⟩ := h
  obtain ⟨a, cap, rfl, _⟩ := h.lform
  exact ⟨a, cap, h.c1⟩
theorem RDisk.fuseCell (h : RDisk w V s W P) : (∃ u, w.cell? ⟨V, 2, none⟩ = some u) ∧ w.frozen? ⟨V, 2, none⟩ = false := by
  obtain ⟨sv, lv, pgs, lps, h, rfl⟩ := h
  exact ⟨⟨_, h.c2⟩, h.fz 2⟩
/-- The sectors' slice, and a sector. -/
theorem RDisk.sectors (h : RDisk w V s W P) : ∃ a cap, w.cell? ⟨V, 0, none⟩ = some (.slice a s.n cap) ∧ ∀ i, i < s.n → ∃ g b off c, a = some ⟨g, 0, none⟩ ∧ w.cell? ⟨g, i, none⟩ = some (.slice (some ⟨b, off, none⟩) 64 c) ∧ Rw w (some ⟨b, off, none⟩) 64 (s.lasts i) := by
  obtain ⟨sv, lv, pgs, lps, h, rfl⟩ := h
  obtain ⟨a, cap, rfl, hg⟩ := h.sform
  refine ⟨a, cap, h.c0, fun i hi => ?_⟩
  obtain ⟨g, rfl⟩ := hg (by omega)
  obtain ⟨v, hv, hp⟩ := h.page i hi
  obtain ⟨b, off, c, rfl, _, _, hf⟩ := hp
  exact ⟨g, b, off, c, rfl, hv, ⟨by unfold maxLen; omega, fun _ => ⟨b, off, rfl, hf⟩⟩⟩
end
end Go.Proofs.Ytbecchoidglaeaa
