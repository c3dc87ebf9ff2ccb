/- The document's Scan: what it leans on. -/
import Derived.Test.YtbecchoidglaeaaGLay
import Derived.Test.YtbecchoidglaeaaGRegC
import Derived.Test.YtbecchoidglaeaaGRegP
import Derived.Test.YtbecchoidglaeaaGFlush
import Derived.Deep.RegionHeld3
namespace Go.Proofs.Ytbecchoidglaeaa
open Go.RowKit
set_option maxRecDepth 100000

/-- Read, with the page's place. -/
theorem rdisk_page {w : World} {V : Nat} {s : St} {W P : Nat → Prop} (h : RDisk w V s W P) (hm : Made s) (i : Nat) (hi : i < s.n) :
    Calls Try.prog 38 #[.pointer (some ⟨V, 0, none⟩), .int .i64 (i : Int)] w fun e w' => ∃ b off cap, e = .returned (.slice (some ⟨b, off, none⟩) 64 cap) ∧ 64 ≤ cap ∧ (∀ j, j < 64 → w.cell? ⟨b, off + j, none⟩ = some (.int .u8 (s.now i j : Int))) ∧ w' = w := by
  obtain ⟨sv, lv, pgs, lps, h, rfl⟩ := h
  refine (rread_in h i hi).mono ?_
  rintro e w' ⟨v, rfl, hp, rfl⟩
  obtain ⟨b, off, cap, rfl, hc, _, hf⟩ := hp
  refine ⟨b, off, cap, rfl, hc, fun j hj => ?_, rfl⟩
  rw [show s.now = _ from hm]
  exact hf j hj
set_option maxHeartbeats 400000 in
theorem sameB_some (b1 o1 b2 o2 len c1 c2 : Nat) (f g : Nat → Nat) (w : World) (hm : len ≤ 100000)
    (h1 : ∀ i, i < len → w.cell? ⟨b1, o1 + i, none⟩ = some (.int .u8 (f i : Int))) (h2 : ∀ i, i < len → w.cell? ⟨b2, o2 + i, none⟩ = some (.int .u8 (g i : Int))) :
    Calls Try.prog 39 #[.slice (some ⟨b1, o1, none⟩) len c1, .slice (some ⟨b2, o2, none⟩) len c2] w fun e w' => e = .returned (.bool (eqB f g len)) ∧ ∃ m, w' = w.drewN m := by
  have H1 := hide h1
  have H2 := hide h2
  clear h1 h2
  go_enter Try.func39, Try.ntmps39
  go_wp2
  go_loopw [5] (fun i wq => ∃ k m : Nat, k ≤ len ∧ i = .int .i64 k ∧ Hid (wq = w.drewN m) ∧ Hid (∀ j, j < k → f j = g j)) (fun i _ => len - (intOf i).toNat)
  case atStart => exact ⟨0, 0, Nat.zero_le _, rfl, rfl, fun j hj => absurd hj (by omega)⟩
  case round =>
    obtain ⟨k, m, hk, rfl, HW, HE⟩ := hrel
    by_cases hlt : k < len
    · have c1 : wr.cell? ⟨b1, o1 + k, none⟩ = some (.int .u8 (f k : Int)) := by rw [HW.out, cell_drewN]; exact H1.out k hlt
      have c2 : wr.cell? ⟨b2, o2 + k, none⟩ = some (.int .u8 (g k : Int)) := by rw [HW.out, cell_drewN]; exact H2.out k hlt
      have hk0 : (0 : Int) ≤ (k : Int) := Int.natCast_nonneg _
      have hk1 : (k : Int) < (len : Int) := by omega
      by_cases hfg : f k = g k
      · have e0 : (((f k : Nat) : Int) != ((g k : Nat) : Int)) = false := by rw [hfg]; simp
        have HFG := hide hfg
        clear hfg
        go_wp2_with fail
        go_quiet (fail)
        go_wp2
        exact ⟨⟨k + 1, m + nq, by omega, by go_num, show wr.drewN nq = _ by rw [HW.out, drewN_more], fun j hj => by
          by_cases e : j = k
          · rw [e]; exact HFG.out
          · exact HE.out j (by omega)⟩, by simp [intOf]; omega⟩
      · have e0 : (((f k : Nat) : Int) != ((g k : Nat) : Int)) = true := by simp; omega
        have HFG := hide hfg
        clear hfg
        go_wp2_with fail
        go_quiet (fail)
        go_wp2
        go_ret
        exact ⟨ret_bool (by cases h : eqB f g len with | false => rfl | true => exact absurd ((eqB_iff f g len).1 h k hlt) HFG.out), m + nq, show wr.drewN nq = _ by rw [HW.out, drewN_more]⟩
    · go_wp2
      go_ret
      exact ⟨ret_bool ((eqB_iff f g len).2 fun j hj => HE.out j (by omega)).symm, m, HW.out⟩
/-- One page more. -/
theorem run_more2 {w wq : World} {s : St} {at_ k b off cap : Nat} {v : Value} (h : ReadUp w wq s at_ k v) (hk : k ≤ 2000) (hr : ∀ j, j < 64 → wq.cell? ⟨b, off + j, none⟩ = some (.int .u8 (s.now (at_ + k) j : Int))) :
    ∃ v' w3, (Builtin.append_ #[37, 37] 37 #[v, .slice (some ⟨b, off, none⟩) 64 cap]).run Try.prog wq = .ok v' w3 ∧ ReadUp w w3 s at_ (k + 1) v' := by
  obtain ⟨ho, hbel⟩ := h
  obtain ⟨i0, hi0, hz0, hz1, hz2⟩ := info_parts Try.infoU8
  obtain ⟨v', w3, hrun, ho3, hg, _, _⟩ := run_append_own_at (P := Try.prog) wq w.heap.size 37 37 5 i0 _ 1 1 Try.underlying37 hi0 hz0 hz1 hz2 rfl (by omega) v (k * 64) _ ho ⟨b, off, none⟩ 64 cap (valsOf (s.now (at_ + k)) 64) (by rw [valsOf_length])
    (fun j u hu => by
      have hj : j < 64 := by simpa [valsOf_length] using (List.getElem?_eq_some_iff.1 hu).1
      rw [valsOf_get _ _ _ hj] at hu
      rw [Addr.add_mid, hr j hj, hu]) (valsOf_one _ 64) (by unfold maxLen; omega) (by omega) hbel.size
  rw [runs_vals, show k * 64 + 64 = (k + 1) * 64 from by omega] at ho3
  refine ⟨v', w3, hrun, ho3, ?_⟩
  have k3 : Keeps (fun x => v.ownBlock = some x) wq w3 := (Keeps.refl _ _).grown hg (fun x e => .inl e)
  have hv : ∀ x, v.ownBlock = some x → w.heap.size ≤ x := fun x e => by
    rcases ho.2 with ⟨rfl, _⟩ | ⟨g, cap, cur, rfl, hg, _⟩
    · simp [Value.ownBlock] at e
    · simp [Value.ownBlock] at e; omega
  exact hbel.trans (k3.below _ hbel.size hv)
theorem num_gen {s : St} {at_ : Nat} {e : Int} {gen : Nat} (hg : gen < 4294967296) (h : num (s.now at_) ≠ gen) : isEnt s at_ e gen = false := by
  cases hh : isEnt s at_ e gen with
  | false => rfl
  | true =>
    exfalso
    apply h
    rw [← num_four gen hg]
    refine num_congr fun i hi => ?_
    rw [(isEnt_parts hh).2 i (by omega), ent0_at _ _ _ _ (by omega), head_gen _ _ _ _ hi]
/-- Are the first k pages those of the entry? -/
def okUp (s : St) (at_ gen : Nat) (k : Nat) : Bool := (List.range k).all fun i => eqB (ent gen (runs s (at_ + 1)) (lenAt s at_) i) (s.now (at_ + i)) 64
theorem okUp_zero (s : St) (at_ gen : Nat) : okUp s at_ gen 0 = true := rfl
theorem okUp_succ (s : St) (at_ gen k : Nat) : okUp s at_ gen (k + 1) = (okUp s at_ gen k && eqB (ent gen (runs s (at_ + 1)) (lenAt s at_) k) (s.now (at_ + k)) 64) := by
  unfold okUp
  rw [List.range_succ, List.all_append]
  simp
theorem okUp_iff (s : St) (at_ gen k : Nat) : okUp s at_ gen k = true ↔ ∀ i, i < k → ∀ j, j < 64 → ent gen (runs s (at_ + 1)) (lenAt s at_) i j = s.now (at_ + i) j := by
  unfold okUp
  simp [eqB]
theorem ent_succ (gen : Nat) (f : Nat → Nat) (len i j : Nat) : ent gen f len (i + 1) j = fill (fun q => f (i * 64 + q)) (len - i * 64) j := rfl
theorem pages_same (now : Nat → Nat → Nat) (R : Nat → Nat) (at_ gen L : Nat) (hR : ∀ i j, j < 64 → now (at_ + (i + 1)) j = R (i * 64 + j)) :
    (∀ i, i < cnt L → ∀ j, j < 64 → ent gen R L i j = now (at_ + i) j) ↔ (∀ j, j < (L + 63) / 64 * 64 - L → R (L + j) = 0) ∧ ∀ j, j < 64 → now at_ j = ent gen R L 0 j := by
  have hc : cnt L = 1 + (L + 63) / 64 := rfl
  constructor
  · intro h
    refine ⟨fun j hj => ?_, fun j hj => (h 0 (by omega) j hj).symm⟩
    obtain ⟨d, hd⟩ : ∃ d, d = (L + j) / 64 := ⟨_, rfl⟩
    obtain ⟨m, hm⟩ : ∃ m, m = (L + j) % 64 := ⟨_, rfl⟩
    have h3 := h (d + 1) (by omega) m (by omega)
    rw [ent_succ, hR d m (by omega)] at h3
    unfold fill at h3
    rw [if_neg (by omega), show d * 64 + m = L + j from by omega] at h3
    exact h3.symm
  · rintro ⟨h1, h2⟩ i hi j hj
    cases i with
    | zero => exact (h2 j hj).symm
    | succ i =>
      rw [ent_succ, hR i j hj]
      unfold fill
      by_cases h3 : j < L - i * 64
      · rw [if_pos h3]
      · rw [if_neg h3]
        have := h1 (i * 64 + j - L) (by omega)
        rw [show L + (i * 64 + j - L) = i * 64 + j from by omega] at this
        exact this.symm
theorem runs_at (s : St) (at_ i j : Nat) (hj : j < 64) : s.now (at_ + (i + 1)) j = runs s (at_ + 1) (i * 64 + j) := by
  unfold runs
  rw [show (i * 64 + j) / 64 = i from by omega, show (i * 64 + j) % 64 = j from by omega, show at_ + 1 + i = at_ + (i + 1) from by omega]
theorem isEnt_of_fit {s : St} {at_ gen : Nat} {e : Int} (hf : fit s.n at_ e (lenAt s at_) = true) : isEnt s at_ e gen = (allZ (fun j => runs s (at_ + 1) (lenAt s at_ + j)) ((lenAt s at_ + 63) / 64 * 64 - lenAt s at_) && eqB (s.now at_) (ent gen (runs s (at_ + 1)) (lenAt s at_) 0) 64) := by
  unfold isEnt
  rw [hf, Bool.true_and]
theorem okUp_ent {s : St} {at_ gen : Nat} {e : Int} (hf : fit s.n at_ e (lenAt s at_) = true) : okUp s at_ gen (cnt (lenAt s at_)) = isEnt s at_ e gen := by
  rw [isEnt_of_fit hf]
  have h1 := okUp_iff s at_ gen (cnt (lenAt s at_))
  have h2 := pages_same s.now (runs s (at_ + 1)) at_ gen (lenAt s at_) (fun i j hj => runs_at s at_ i j hj)
  have h3 := allZ_iff (fun j => runs s (at_ + 1) (lenAt s at_ + j)) ((lenAt s at_ + 63) / 64 * 64 - lenAt s at_)
  have h4 := eqB_iff (s.now at_) (ent gen (runs s (at_ + 1)) (lenAt s at_) 0) 64
  rw [Bool.eq_iff_iff, Bool.and_eq_true, h1, h2, h3, h4]
end Go.Proofs.Ytbecchoidglaeaa
/- The document's Scan: the walk. -/
namespace Go.Proofs.Ytbecchoidglaeaa
open Go.RowKit
set_option maxRecDepth 100000

theorem rscan_end {w wq wz : World} {s : St} {at_ : Nat} {e : Int} {gen k : Nat} {v : Value} (h : ScanAt w wq s at_ e gen k v) (hn : isEnt s (pos s at_ k) e gen = false) (hb : Below wq.heap.size wq wz) :
    ScanRes w wz s at_ e gen (.returned (.tuple #[v, .int .i64 (pos s at_ k : Int)])) ∧ Below w.heap.size w wz :=
  ⟨⟨k, v, ⟨h.1, hn⟩, rfl, h.2.1.below hb⟩, h.2.2.trans (below_le hb h.2.2.size)⟩
theorem run_slice2 (w : World) (a : Option Addr) (M n c : Nat) (h : n ≤ c) : (Instr.sliceAt 37 (.slice a M c) none (some (.int .i64 (n : Int))) none).run Try.prog w = .ok (.slice a n c) w := by
  have ht : Try.prog.underlying 37 = some (.slice 5) := Try.underlying37
  cases a with
  | none => simp [Instr.sliceAt, Instr.slice, run_underlying ht, Instr.sliceBounds, run_sliceBound, h]
  | some x =>
    obtain ⟨b, o, sp⟩ := x
    simp [Instr.sliceAt, Instr.slice, run_underlying ht, Instr.sliceBounds, run_sliceBound, h, Addr.add]
section
variable {P : Program} {ops : Array Oper} {rest : List Oper} {a : Act} {w w' : World} {Q : Exit → Act → World → Prop} {dst : Option Tmp} {ty : TypeId} {pos : String} {after : Array Edge}
theorem wpl_slice2 (t : TypeId) (x y : Operand) (p u r : Value) (hx : a.eval x = p) (hy : a.eval y = u) (hr : (Instr.sliceAt t p none (some u) none).run P w = .ok r w) (h : wpList P ops Q rest (a.put dst r) w) :
    wpList P ops Q ({ dst := dst, op := .slice t x none (some y) none, type := ty, pos := pos, after := after, guard := none } :: rest) a w :=
  wpList_plain rfl fun K hK => by
    unfold Oper.wp execOp
    simp only [Option.map_some, Option.map_none, hx, hy, Sem.run_bind, hr, Result.andThen_ok, Sem.run_pure]
    exact hK _ _ h
end
theorem okFalse {s : St} {at_ gen k : Nat} (h : okUp s at_ gen k = false) : Value.bool false = .bool (okUp s at_ gen (k + 1)) := by rw [okUp_succ, h]; rfl
theorem okTrue {s : St} {at_ gen k L : Nat} (h : okUp s at_ gen k = true) (hL : lenAt s at_ = L) : Value.bool (eqB (ent gen (runs s (at_ + 1)) L k) (s.now (at_ + k)) 64) = .bool (okUp s at_ gen (k + 1)) := by rw [okUp_succ, h, hL]; rfl
theorem rw_cells {w : World} {b off n : Nat} {f : Nat → Nat} (h : Rw w (some ⟨b, off, none⟩) n f) : ∀ i, i < n → w.cell? ⟨b, off + i, none⟩ = some (.int .u8 (f i : Int)) := by
  intro i hi
  obtain ⟨b', off', e, hc⟩ := h.2 (by omega)
  injection e with e
  injection e with e1 e2 _
  subst e1 e2
  exact hc i hi
/-- What was read, as a row of bytes. -/
theorem readUp_row {w wq : World} {s : St} {at_ k : Nat} {v : Value} (h : ReadUp w wq s at_ k v) (L : Nat) (hL : L ≤ k * 64) (hk : k ≤ 1000) :
    ∃ a c, v = .slice a (k * 64) c ∧ L ≤ c ∧ Rw wq a L (runs s at_) ∧ ∀ x, a = some x → w.heap.size ≤ x.block := by
  rcases h.1.2 with ⟨rfl, hz⟩ | ⟨g, c, cur, rfl, hg, _, hc, _⟩
  · rw [hz]
    obtain rfl : L = 0 := by omega
    exact ⟨none, 0, rfl, Nat.le_refl _, Rw.nil _ _ _, fun x hx => by cases hx⟩
  · exact ⟨_, c, rfl, by omega, (rw_owned (own_base h.1) (by omega)).low0 L hL, fun x hx => by injection hx with hx; subst hx; exact hg⟩
set_option maxRecDepth 100000 in
set_option maxHeartbeats 6400000 in
theorem rscan_in {w : World} {V : Nat} {s : St} {W P : Nat → Prop} (h : RDisk w V s W P) (hm : Made s) (hby : Bts s) (at_ gen : Nat) (e : Int) (hg : gen ≤ 2147483647) (hs : s.n ≤ 120) :
    Calls Try.prog 45 #[.pointer (some ⟨V, 0, none⟩), .int .i64 (at_ : Int), .int .i64 e, .int .i64 (gen : Int)] w fun r w' => ScanRes w w' s at_ e gen r ∧ Below w.heap.size w w' := by
  have H := hide h
  have HM := hide hm
  have HBy := hide hby
  have hg1 : (gen : Int) ≤ 2147483647 := by omega
  clear h hm hby
  go_enter Try.func45, Try.ntmps45
  go_wp2
  go_loopw [1, 10] (fun av vv wq => ∃ k x : Nat, Hid (x = pos s at_ k) ∧ av = .int .i64 (x : Int) ∧ Hid (ScanAt w wq s at_ e gen k vv)) (fun av _ _ => s.n - (intOf av).toNat)
  case atStart => exact ⟨0, at_, rfl, rfl, fun i hi => absurd hi (by omega), rows_none _ _ _ _, Below.refl _ _⟩
  case round =>
    obtain ⟨k, x, HX, rfl, hp⟩ := hrel
    have HD := hide (H.out.later hp.out.2.2)
    go_wp2_with fail
    refine (rend_any HD.out e).mono ?_
    rintro r w1 ⟨rfl, rfl⟩
    have hmn : min e (s.n : Int) ≤ 120 := by omega
    by_cases hlt : (x : Int) < min e (s.n : Int)
    · have hxn : x < s.n := by omega
      have HFIT : Hid (∀ L, fit s.n x e L = true ↔ (cnt L : Int) ≤ min e (s.n : Int) - (x : Int)) := fun L => by
        rw [fit_iff]; exact ⟨fun h => h.2, fun h => ⟨hlt, h⟩⟩
      generalize hmm : min e (s.n : Int) = m at *
      have HMM := hide hmm
      clear hmm
      go_wp2_with fail
      refine (rdisk_page HD.out HM.out x hxn).mono ?_
      rintro r w2 ⟨b1, o1, c1, rfl, hcap, hcell, rfl⟩
      have HC := hide hcell
      have hcap4 : ¬ c1 = 4 := by omega
      have hcap' : (64 : Int) ≤ (c1 : Int) := by omega
      clear hcell hcap
      go_wp2_with fail
      refine (num_eq b1 (o1 + 4) 60 (c1 - 4) (fun i => s.now x (4 + i)) w2 (by omega) (fun i hi => HBy.out.now _ _) (fun i hi => by rw [Nat.add_assoc]; exact HC.out (4 + i) (by omega))).mono ?_
      rintro r w3 ⟨rfl, k3, rfl⟩
      have hlen : num (fun i => s.now x (4 + i)) = lenAt s x := rfl
      rw [hlen]
      have hL := lenAt_lt (s := s) (fun i _ j _ => HBy.out.now i j) hxn
      generalize hLL : lenAt s x = L at *
      have HLL := hide hLL
      clear hlen hLL
      have HC3 : Hid (∀ j, j < 64 → (w2.drewN k3).cell? ⟨b1, o1 + j, none⟩ = some (.int .u8 (s.now x j : Int))) := fun j hj => by rw [cell_drewN]; exact HC.out j hj
      have hC : 1 + ((L : Int) + 63) / 64 = (cnt L : Int) := by unfold cnt; omega
      have HCC := hide hC
      clear hC
      go_wp2_with fail
      rw [HCC.out]
      refine (num_eq b1 o1 64 c1 (s.now x) (w2.drewN k3) (by omega) (fun i hi => HBy.out.now _ _) (fun i hi => HC3.out i (by omega))).mono ?_
      rintro r w4 ⟨rfl, k4, rfl⟩
      rw [drewN_more]
      have hbd : Below w2.heap.size w2 (w2.drewN (k3 + k4)) := below_drewN (Below.refl _ _) _
      have HBD := hide hbd
      clear hbd
      by_cases hng : num (s.now x) = gen
      · rw [hng]
        by_cases hbig : 8192 < L
        · have hbig' : (8192 : Int) < (L : Int) := by omega
          go_wp2
          go_ret2
          obtain rfl := HX.out
          exact rscan_end hp.out (isEnt_false1 (by
            rw [HLL.out]
            cases hh : fit s.n (pos s at_ k) e L with
            | false => rfl
            | true => have := (fit_iff _ _ _ _).1 hh; unfold cnt at this; omega)) HBD.out
        · have hbig' : decide ((8192 : Int) < (L : Int)) = false := decide_eq_false (by omega)
          have HBG := hide hbig
          clear hbig
          have HD4 := hide (HD.out.later HBD.out)
          generalize hW4 : w2.drewN (k3 + k4) = W4 at *
          clear hW4 HC3
          go_wp2_with fail
          refine (rend_any HD4.out e).mono ?_
          rintro r w5 ⟨rfl, rfl⟩
          rw [HMM.out]
          by_cases hroom : (cnt L : Int) ≤ m - (x : Int)
          · have HF : Hid (fit s.n x e L = true) := (HFIT.out L).2 hroom
            have HCL : Hid (cnt L = 1 + (L + 63) / 64) := rfl
            have hcl : (cnt L : Int) ≤ 120 := by omega
            have hxc : x + cnt L ≤ s.n := by have := (fit_iff _ _ _ _).1 HF.out; omega
            generalize hCC : cnt L = C at *
            have HCC2 := hide hCC
            clear hCC
            go_wp2
            go_loopw [14, 15] (fun bv iv wq => ∃ q i : Nat, Hid (i = q + 1 ∧ i ≤ C) ∧ iv = .int .i64 (i : Int) ∧ Hid (ReadUp w5 wq s (x + 1) q bv)) (fun _ iv _ => C - (intOf iv).toNat)
            case atStart => exact ⟨0, 1, ⟨by omega, by have := HCL.out; omega⟩, rfl, ⟨rfl, .inl ⟨rfl, rfl⟩⟩, Below.refl _ _⟩
            case round =>
              obtain ⟨q, i, HQ, rfl, hup⟩ := hrel
              by_cases hiC : (i : Int) < (C : Int)
              · have hi : x + i < s.n := by omega
                go_wp2_with fail
                refine (rdisk_page (HD4.out.later hup.out.2) HM.out (x + i) hi).mono ?_
                rintro r w6 ⟨b6, o6, c6, rfl, hcap6, hcell6, rfl⟩
                obtain ⟨v', w7, hrun, hup7⟩ := run_more2 (cap := c6) hup.out (by have := HQ.out; omega) (b := b6) (off := o6) (fun j hj => by rw [show x + 1 + q = x + i from by have := HQ.out; omega]; exact hcell6 j hj)
                have HR := hide hrun
                have HU := hide hup7
                clear hrun hup7 hcell6 hcap6
                go_wp2_with ((with_reducible refine wpl_append _ _ 37 _ (.slice (some ⟨b6, o6, none⟩) 64 c6) _ ?_ ?_ HR.out ?_); (· rfl); (· rfl))
                exact ⟨⟨q + 1, i + 1, ⟨by have := HQ.out; omega, by omega⟩, by go_num, HU⟩, by simp [intOf]; omega⟩
              · have hqm : q = (L + 63) / 64 := by have := HQ.out; have := HCL.out; omega
                have hup' := hup.out
                rw [hqm] at hup'
                obtain ⟨a, c, rfl, hLc, hrw, hblk⟩ := readUp_row hup' L (by omega) (by have := HBG.out; omega)
                have HRW := hide hrw
                have HBK := hide hblk
                have HUB := hide hup'.2
                clear hup' hrw hblk hup
                generalize hM : (L + 63) / 64 * 64 = M at *
                clear hM hqm
                go_wp2_with ((with_reducible refine wpl_slice2 37 _ _ (.slice a M c) (.int .i64 (L : Int)) _ ?_ ?_ (run_slice2 _ a M L c hLc) ?_); (· rfl); (· rfl))
                refine (sectors_any gen (by omega) a L c (runs s (x + 1)) wr HRW.out (fun q _ => HBy.out.now _ _) (by have := HBG.out; omega) hLc).mono ?_
                rintro r w8 ⟨vl, rfl, hpg, hb8⟩
                rw [HCC2.out] at hpg
                obtain ⟨g2, c2, rfl, hsh⟩ := (hpg.sheets (by have := HCL.out; omega)).at
                have HSH := hide hsh
                have HB8 := hide hb8
                have HD8 := hide ((HD4.out.later HUB.out).later hb8)
                have HRW8 := hide (HRW.out.below hb8)
                have HC8 : Hid (Below w5.heap.size w5 w8) := HUB.out.trans (below_le hb8 HUB.out.size)
                clear hpg hsh hb8
                go_wp2
                go_loopw [17, 18] (fun okv iv wq => ∃ i : Nat, i ≤ C ∧ iv = .int .i64 (i : Int) ∧ okv = .bool (okUp s x gen i) ∧ Hid (Below w8.heap.size w8 wq)) (fun _ iv _ => C - (intOf iv).toNat)
                case atStart => exact ⟨0, Nat.zero_le _, rfl, rfl, Below.refl _ _⟩
                case round =>
                  obtain ⟨i, hi, rfl, rfl, HB⟩ := hrel
                  by_cases hiC : (i : Int) < (C : Int)
                  · cases hok : okUp s x gen i with
                    | false =>
                      have HOK := hide hok
                      clear hok
                      go_wp2_with fail
                      go_quiet (fail)
                      go_wp2
                      exact ⟨⟨i + 1, by omega, by go_num, okFalse HOK.out, below_drewN HB.out nq⟩, by simp [intOf]; omega⟩
                    | true =>
                      have HOK := hide hok
                      clear hok
                      obtain ⟨bl, ol, cl, hcl, hrl, _, _⟩ := HSH.out i (by omega)
                      have xl : wr.cell? ⟨g2, i, none⟩ = some (.slice (some ⟨bl, ol, none⟩) 64 cl) := by
                        rw [(Keeps.of_below HB.out (fun _ => False)).cell _ (World.block_lt_of_cell? w8 _ hcl) (fun h => h)]; exact hcl
                      have hxb := HB.out
                      have HRL := hide hrl
                      have hi0 : (0 : Int) ≤ (i : Int) := Int.natCast_nonneg _
                      have hxi : x + i < s.n := by omega
                      have HWRP : Hid (IntKind.i64.wrap ((x : Int) + (i : Int)) = ((x + i : Nat) : Int)) := by
                        show IntKind.i64.wrap ((x : Int) + (i : Int)) = _
                        rw [IntKind.wrap_i64]; omega
                      clear hcl hrl
                      go_wp2_with fail
                      go_region_held3 (fun w' => Below w8.heap.size w8 w' ∧ w'.cell? ⟨g2, i, none⟩ = some (.slice (some ⟨bl, ol, none⟩) 64 cl))
                        (first
                          | (go_split_ands
                             refine ⟨?_, ?_⟩
                             · (first | assumption | exact below_drewN HB.out _ | exact below_drew1 (by assumption))
                             · (first | assumption | (rw [cell_drewN]; assumption) | (simp only [World.cell?_drew]; assumption))))
                        (first
                          | (go_split_ands; go_at_call 38; rw [HWRP.out]; refine (rdisk_page (HD8.out.later (by assumption)) HM.out (x + i) hxi).mono ?_; rintro e wA ⟨bp, op, cp, rfl, hcp, hpc, rfl⟩)
                          | (go_split_ands; go_at_call 39; refine (sameB_some bl ol bp op 64 cl cp (ent gen (runs s (x + 1)) L i) (s.now (x + i)) _ (by omega) (rw_cells (HRL.out.below (by assumption))) hpc).mono ?_; rintro e wB ⟨rfl, mB, rfl⟩))
                      all_goals go_wp2
                      all_goals exact ⟨⟨i + 1, by omega, by go_num, okTrue HOK.out HLL.out, by first | assumption | exact below_drewN HB.out _⟩, by simp [intOf]; omega⟩
                  · obtain rfl : i = C := by omega
                    have hE : okUp s x gen i = isEnt s x e gen := by
                      have := okUp_ent (s := s) (at_ := x) (gen := gen) (e := e) (by rw [HLL.out]; exact HF.out)
                      rwa [HLL.out, HCC2.out] at this
                    have HB2 : Hid (Below w2.heap.size w2 wr) := (HBD.out.trans (below_le HC8.out HBD.out.size)).trans (below_le HB.out (by have := HBD.out.size; have := HC8.out.size; omega))
                    rw [hE]
                    cases hent : isEnt s x e gen with
                    | false =>
                      have HE := hide hent
                      clear hent hE
                      go_wp2
                      go_ret2
                      obtain rfl := HX.out
                      exact rscan_end hp.out HE.out HB2.out
                    | true =>
                      have HE := hide hent
                      obtain rfl := HX.out
                      have hs2 := hp.out.2.2.size
                      obtain ⟨v', w9, hrun, hrows, hb9⟩ := run_rows (hp.out.2.1.below HB2.out) (by have := HB2.out.size; omega) (by have := hp.out.bound; omega) a L c HLL.out.symm (HRW8.out.below HB.out) (fun h0 y hy => by
                        have h1 := HBK.out y hy
                        refine ⟨by have := HBD.out.size; omega, fun e2 => ?_⟩
                        obtain ⟨vs, ho, _⟩ := hp.out.2.1
                        have := ownBlock_lt ho _ e2
                        have := HBD.out.size
                        omega)
                      have HR := hide hrun
                      have HS := hide (hp.out.step hent hrows ((below_le HB2.out hs2).trans hb9))
                      have HPS : Hid (pos s at_ (k + 1) = pos s at_ k + i) := by show pos s at_ k + cnt (lenAt s (pos s at_ k)) = _; rw [HLL.out, HCC2.out]
                      clear hent hE hrun hrows hb9 hs2
                      go_wp2_with ((with_reducible refine wpl_append _ _ 29 _ (.slice (some ⟨wr.heap.size, 0, none⟩) 1 1) _ ?_ ?_ HR.out ?_); (· rfl); (· rfl))
                      exact ⟨⟨k + 1, pos s at_ k + i, HPS.out.symm, by go_num, HS⟩, by simp [intOf]; have := HCL.out; omega⟩
          · have HNF : Hid (isEnt s x e gen = false) := isEnt_false1 (by
              rw [HLL.out]
              cases hh : fit s.n x e L with
              | false => rfl
              | true => exact absurd ((HFIT.out L).1 hh) hroom)
            have hroom' : m - (x : Int) < (cnt L : Int) := by omega
            clear hroom
            generalize cnt L = C at *
            go_wp2
            go_ret2
            obtain rfl := HX.out
            exact rscan_end hp.out HNF.out HBD.out
      · have hne : ((num (s.now x) : Int) != (gen : Int)) = true := by simp; omega
        have HNG := hide (num_gen (e := e) (by omega) hng)
        clear hng
        generalize num (s.now x) = NG at *
        go_wp2
        go_ret2
        obtain rfl := HX.out
        exact rscan_end hp.out HNG.out HBD.out
    · have HNF : Hid (isEnt s x e gen = false) := isEnt_false1 (by
        cases hh : fit s.n x e (lenAt s x) with
        | false => rfl
        | true => have := (fit_iff _ _ _ _).1 hh; omega)
      generalize min e (s.n : Int) = m at *
      go_wp2
      go_ret2
      obtain rfl := HX.out
      exact rscan_end hp.out HNF.out (Below.refl _ _)
end Go.Proofs.Ytbecchoidglaeaa
