/- The document's Scan: the walk. -/
import Derived.Test.YtolbifboibjgcaaRScan
import Derived.Test.YtolbifboibjgcaaBts
import Derived.Deep.RegionHeld3
namespace Go.Proofs.Ytolbifboibjgcaa
open Go.RowKit

theorem rscan_end {w wq wz : World} {s : St} {at_ : Nat} {e : Int} {gen k : Nat} {v : Value} (h : ScanAt w wq s at_ e gen k v) (hn : isEnt s (pos s at_ k) e gen = false) (hb : Below wq.heap.size wq wz) :
    ScanRes w wz s at_ e gen (.returned (.tuple #[v, .int .i64 (pos s at_ k : Int)])) ∧ Below w.heap.size w wz :=
  ⟨⟨k, v, ⟨h.1, hn⟩, rfl, h.2.1.below hb⟩, h.2.2.trans (below_le hb h.2.2.size)⟩
theorem run_slice2 (w : World) (a : Option Addr) (M n c : Nat) (h : n ≤ c) : (Instr.sliceAt 39 (.slice a M c) none (some (.int .i64 (n : Int))) none).run Try.prog w = .ok (.slice a n c) w := by
  have ht : Try.prog.underlying 39 = some (.slice 5) := Try.underlying39
  cases a with
  | none => simp [Instr.sliceAt, Instr.slice, run_underlying ht, Instr.sliceBounds, run_sliceBound, h]
  | some x =>
    obtain ⟨b, o, sp⟩ := x
    simp [Instr.sliceAt, Instr.slice, run_underlying ht, Instr.sliceBounds, run_sliceBound, h, Addr.add]
section
variable {P : Program} {ops : Array Oper} {rest : List Oper} {a : Act} {w w' : World} {Q : Exit → Act → World → Prop} {dst : Option Tmp} {ty : TypeId} {pos : String} {after : Array Edge}
theorem wpl_slice2 (t : TypeId) (x y : Operand) (p u r : Value) (hx : a.eval x = p) (hy : a.eval y = u) (hr : (Instr.sliceAt t p none (some u) none).run P w = .ok r w) (h : wpList P ops Q rest (a.put dst r) w) :
    wpList P ops Q ({ dst := dst, op := .slice t x none (some y) none, type := ty, pos := pos, after := after, guard := none } :: rest) a w :=
  wpList_plain rfl fun K hK => by
    unfold Oper.wp execOp
    simp only [Option.map_some, Option.map_none, hx, hy, Sem.run_bind, hr, Result.andThen_ok, Sem.run_pure]
    exact hK _ _ h
end
theorem below_drew1 {B : Nat} {w wq : World} (h : Below B w wq) : Below B w wq.drew := ⟨h.os, h.tape, h.output, h.size, h.block⟩
theorem okFalse {s : St} {at_ gen k : Nat} (h : okUp s at_ gen k = false) : Value.bool false = .bool (okUp s at_ gen (k + 1)) := by rw [okUp_succ, h]; rfl
theorem okTrue {s : St} {at_ gen k L : Nat} (h : okUp s at_ gen k = true) (hL : lenAt s at_ = L) : Value.bool (eqB (ent gen (runs s (at_ + 1)) L k) (s.now (at_ + k)) 64) = .bool (okUp s at_ gen (k + 1)) := by rw [okUp_succ, h, hL]; rfl
theorem rw_cells {w : World} {b off n : Nat} {f : Nat → Nat} (h : Rw w (some ⟨b, off, none⟩) n f) : ∀ i, i < n → w.cell? ⟨b, off + i, none⟩ = some (.int .u8 (f i : Int)) := by
  intro i hi
  obtain ⟨b', off', e, hc⟩ := h.2 (by omega)
  injection e with e
  injection e with e1 e2 _
  subst e1 e2
  exact hc i hi
/-- What was read, as a row of bytes. -/
theorem readUp_row {w wq : World} {s : St} {at_ k : Nat} {v : Value} (h : ReadUp w wq s at_ k v) (L : Nat) (hL : L ≤ k * 64) (hk : k ≤ 1000) :
    ∃ a c, v = .slice a (k * 64) c ∧ L ≤ c ∧ Rw wq a L (runs s at_) ∧ ∀ x, a = some x → w.heap.size ≤ x.block := by
  rcases h.1.2 with ⟨rfl, hz⟩ | ⟨g, c, cur, rfl, hg, _, hc, _⟩
  · rw [hz]
    obtain rfl : L = 0 := by omega
    exact ⟨none, 0, rfl, Nat.le_refl _, Rw.nil _ _ _, fun x hx => by cases hx⟩
  · exact ⟨_, c, rfl, by omega, (rw_owned (own_base h.1) (by omega)).low0 L hL, fun x hx => by injection hx with hx; subst hx; exact hg⟩
set_option maxRecDepth 100000 in
set_option maxHeartbeats 6400000 in
theorem rscan_in {w : World} {V : Nat} {s : St} {W P : Nat → Prop} (h : RDisk w V s W P) (hm : Made s) (hby : Bts s) (at_ gen : Nat) (e : Int) (hg : gen ≤ 2147483647) (hs : s.n ≤ 120) :
    Calls Try.prog 11 #[.pointer (some ⟨V, 0, none⟩), .int .i64 (at_ : Int), .int .i64 e, .int .i64 (gen : Int)] w fun r w' => ScanRes w w' s at_ e gen r ∧ Below w.heap.size w w' := by
  have H := hide h
  have HM := hide hm
  have HBy := hide hby
  have hg1 : (gen : Int) ≤ 2147483647 := by omega
  clear h hm hby
  go_enter Try.func11, Try.ntmps11
  go_wp2
  go_loopw [1, 10] (fun av vv wq => ∃ k x : Nat, Hid (x = pos s at_ k) ∧ av = .int .i64 (x : Int) ∧ Hid (ScanAt w wq s at_ e gen k vv)) (fun av _ _ => s.n - (intOf av).toNat)
  case atStart => exact ⟨0, at_, rfl, rfl, fun i hi => absurd hi (by omega), rows_none _ _ _ _, Below.refl _ _⟩
  case round =>
    obtain ⟨k, x, HX, rfl, hp⟩ := hrel
    have HD := hide (H.out.later hp.out.2.2)
    go_wp2_with fail
    refine (rend_any HD.out e).mono ?_
    rintro r w1 ⟨rfl, rfl⟩
    have hmn : min e (s.n : Int) ≤ 120 := by omega
    by_cases hlt : (x : Int) < min e (s.n : Int)
    · have hxn : x < s.n := by omega
      have HFIT : Hid (∀ L, fit s.n x e L = true ↔ (cnt L : Int) ≤ min e (s.n : Int) - (x : Int)) := fun L => by
        rw [fit_iff]; exact ⟨fun h => h.2, fun h => ⟨hlt, h⟩⟩
      generalize hmm : min e (s.n : Int) = m at *
      have HMM := hide hmm
      clear hmm
      go_wp2_with fail
      refine (rdisk_page HD.out HM.out x hxn).mono ?_
      rintro r w2 ⟨b1, o1, c1, rfl, hcap, hcell, rfl⟩
      have HC := hide hcell
      have hcap4 : ¬ c1 = 4 := by omega
      have hcap' : (64 : Int) ≤ (c1 : Int) := by omega
      clear hcell hcap
      go_wp2_with fail
      refine (num_eq b1 (o1 + 4) 60 (c1 - 4) (fun i => s.now x (4 + i)) w2 (by omega) (fun i hi => HBy.out.now _ _) (fun i hi => by rw [Nat.add_assoc]; exact HC.out (4 + i) (by omega))).mono ?_
      rintro r w3 ⟨rfl, k3, rfl⟩
      have hlen : num (fun i => s.now x (4 + i)) = lenAt s x := rfl
      rw [hlen]
      have hL := lenAt_lt (s := s) (fun i _ j _ => HBy.out.now i j) hxn
      generalize hLL : lenAt s x = L at *
      have HLL := hide hLL
      clear hlen hLL
      have HC3 : Hid (∀ j, j < 64 → (w2.drewN k3).cell? ⟨b1, o1 + j, none⟩ = some (.int .u8 (s.now x j : Int))) := fun j hj => by rw [cell_drewN]; exact HC.out j hj
      have hC : 1 + ((L : Int) + 63) / 64 = (cnt L : Int) := by unfold cnt; omega
      have HCC := hide hC
      clear hC
      go_wp2_with fail
      rw [HCC.out]
      refine (num_eq b1 o1 64 c1 (s.now x) (w2.drewN k3) (by omega) (fun i hi => HBy.out.now _ _) (fun i hi => HC3.out i (by omega))).mono ?_
      rintro r w4 ⟨rfl, k4, rfl⟩
      rw [drewN_more]
      have hbd : Below w2.heap.size w2 (w2.drewN (k3 + k4)) := below_drewN (Below.refl _ _) _
      have HBD := hide hbd
      clear hbd
      by_cases hng : num (s.now x) = gen
      · rw [hng]
        by_cases hbig : 8192 < L
        · have hbig' : (8192 : Int) < (L : Int) := by omega
          go_wp2
          go_ret2
          obtain rfl := HX.out
          exact rscan_end hp.out (isEnt_false1 (by
            rw [HLL.out]
            cases hh : fit s.n (pos s at_ k) e L with
            | false => rfl
            | true => have := (fit_iff _ _ _ _).1 hh; unfold cnt at this; omega)) HBD.out
        · have hbig' : decide ((8192 : Int) < (L : Int)) = false := decide_eq_false (by omega)
          have HBG := hide hbig
          clear hbig
          have HD4 := hide (HD.out.later HBD.out)
          generalize hW4 : w2.drewN (k3 + k4) = W4 at *
          clear hW4 HC3
          go_wp2_with fail
          refine (rend_any HD4.out e).mono ?_
          rintro r w5 ⟨rfl, rfl⟩
          rw [HMM.out]
          by_cases hroom : (cnt L : Int) ≤ m - (x : Int)
          · have HF : Hid (fit s.n x e L = true) := (HFIT.out L).2 hroom
            have HCL : Hid (cnt L = 1 + (L + 63) / 64) := rfl
            have hcl : (cnt L : Int) ≤ 120 := by omega
            have hxc : x + cnt L ≤ s.n := by have := (fit_iff _ _ _ _).1 HF.out; omega
            generalize hCC : cnt L = C at *
            have HCC2 := hide hCC
            clear hCC
            go_wp2
            go_loopw [14, 15] (fun bv iv wq => ∃ q i : Nat, Hid (i = q + 1 ∧ i ≤ C) ∧ iv = .int .i64 (i : Int) ∧ Hid (ReadUp w5 wq s (x + 1) q bv)) (fun _ iv _ => C - (intOf iv).toNat)
            case atStart => exact ⟨0, 1, ⟨by omega, by have := HCL.out; omega⟩, rfl, ⟨rfl, .inl ⟨rfl, rfl⟩⟩, Below.refl _ _⟩
            case round =>
              obtain ⟨q, i, HQ, rfl, hup⟩ := hrel
              by_cases hiC : (i : Int) < (C : Int)
              · have hi : x + i < s.n := by omega
                go_wp2_with fail
                refine (rdisk_page (HD4.out.later hup.out.2) HM.out (x + i) hi).mono ?_
                rintro r w6 ⟨b6, o6, c6, rfl, hcap6, hcell6, rfl⟩
                obtain ⟨v', w7, hrun, hup7⟩ := run_more2 (cap := c6) hup.out (by have := HQ.out; omega) (b := b6) (off := o6) (fun j hj => by rw [show x + 1 + q = x + i from by have := HQ.out; omega]; exact hcell6 j hj)
                have HR := hide hrun
                have HU := hide hup7
                clear hrun hup7 hcell6 hcap6
                go_wp2_with ((with_reducible refine wpl_append _ _ 39 _ (.slice (some ⟨b6, o6, none⟩) 64 c6) _ ?_ ?_ HR.out ?_); (· rfl); (· rfl))
                exact ⟨⟨q + 1, i + 1, ⟨by have := HQ.out; omega, by omega⟩, by go_num, HU⟩, by simp [intOf]; omega⟩
              · have hqm : q = (L + 63) / 64 := by have := HQ.out; have := HCL.out; omega
                have hup' := hup.out
                rw [hqm] at hup'
                obtain ⟨a, c, rfl, hLc, hrw, hblk⟩ := readUp_row hup' L (by omega) (by have := HBG.out; omega)
                have HRW := hide hrw
                have HBK := hide hblk
                have HUB := hide hup'.2
                clear hup' hrw hblk hup
                generalize hM : (L + 63) / 64 * 64 = M at *
                clear hM hqm
                go_wp2_with ((with_reducible refine wpl_slice2 39 _ _ (.slice a M c) (.int .i64 (L : Int)) _ ?_ ?_ (run_slice2 _ a M L c hLc) ?_); (· rfl); (· rfl))
                refine (sectors_any gen (by omega) a L c (runs s (x + 1)) wr HRW.out (fun q _ => HBy.out.now _ _) (by have := HBG.out; omega) hLc).mono ?_
                rintro r w8 ⟨vl, rfl, hpg, hb8⟩
                rw [HCC2.out] at hpg
                obtain ⟨g2, c2, rfl, hsh⟩ := (hpg.sheets (by have := HCL.out; omega)).at
                have HSH := hide hsh
                have HB8 := hide hb8
                have HD8 := hide ((HD4.out.later HUB.out).later hb8)
                have HRW8 := hide (HRW.out.below hb8)
                have HC8 : Hid (Below w5.heap.size w5 w8) := HUB.out.trans (below_le hb8 HUB.out.size)
                clear hpg hsh hb8
                go_wp2
                go_loopw [17, 18] (fun okv iv wq => ∃ i : Nat, i ≤ C ∧ iv = .int .i64 (i : Int) ∧ okv = .bool (okUp s x gen i) ∧ Hid (Below w8.heap.size w8 wq)) (fun _ iv _ => C - (intOf iv).toNat)
                case atStart => exact ⟨0, Nat.zero_le _, rfl, rfl, Below.refl _ _⟩
                case round =>
                  obtain ⟨i, hi, rfl, rfl, HB⟩ := hrel
                  by_cases hiC : (i : Int) < (C : Int)
                  · cases hok : okUp s x gen i with
                    | false =>
                      have HOK := hide hok
                      clear hok
                      go_wp2_with fail
                      go_quiet (fail)
                      go_wp2
                      exact ⟨⟨i + 1, by omega, by go_num, okFalse HOK.out, below_drewN HB.out nq⟩, by simp [intOf]; omega⟩
                    | true =>
                      have HOK := hide hok
                      clear hok
                      obtain ⟨bl, ol, cl, hcl, hrl, _, _⟩ := HSH.out i (by omega)
                      have xl : wr.cell? ⟨g2, i, none⟩ = some (.slice (some ⟨bl, ol, none⟩) 64 cl) := by
                        rw [(Keeps.of_below HB.out (fun _ => False)).cell _ (World.block_lt_of_cell? w8 _ hcl) (fun h => h)]; exact hcl
                      have hxb := HB.out
                      have HRL := hide hrl
                      have hi0 : (0 : Int) ≤ (i : Int) := Int.natCast_nonneg _
                      have hxi : x + i < s.n := by omega
                      have HWRP : Hid (IntKind.i64.wrap ((x : Int) + (i : Int)) = ((x + i : Nat) : Int)) := by
                        show IntKind.i64.wrap ((x : Int) + (i : Int)) = _
                        rw [IntKind.wrap_i64]; omega
                      clear hcl hrl
                      go_wp2_with fail
                      go_region_held3 (fun w' => Below w8.heap.size w8 w' ∧ w'.cell? ⟨g2, i, none⟩ = some (.slice (some ⟨bl, ol, none⟩) 64 cl))
                        (first
                          | (go_split_ands
                             refine ⟨?_, ?_⟩
                             · (first | assumption | exact below_drewN HB.out _ | exact below_drew1 (by assumption))
                             · (first | assumption | (rw [cell_drewN]; assumption) | (simp only [World.cell?_drew]; assumption))))
                        (first
                          | (go_split_ands; go_at_call 34; rw [HWRP.out]; refine (rdisk_page (HD8.out.later (by assumption)) HM.out (x + i) hxi).mono ?_; rintro e wA ⟨bp, op, cp, rfl, hcp, hpc, rfl⟩)
                          | (go_split_ands; go_at_call 24; refine (sameB_some bl ol bp op 64 cl cp (ent gen (runs s (x + 1)) L i) (s.now (x + i)) _ (by omega) (rw_cells (HRL.out.below (by assumption))) hpc).mono ?_; rintro e wB ⟨rfl, mB, rfl⟩))
                      all_goals go_wp2
                      all_goals exact ⟨⟨i + 1, by omega, by go_num, okTrue HOK.out HLL.out, by first | assumption | exact below_drewN HB.out _⟩, by simp [intOf]; omega⟩
                  · obtain rfl : i = C := by omega
                    have hE : okUp s x gen i = isEnt s x e gen := by
                      have := okUp_ent (s := s) (at_ := x) (gen := gen) (e := e) (by rw [HLL.out]; exact HF.out)
                      rwa [HLL.out, HCC2.out] at this
                    have HB2 : Hid (Below w2.heap.size w2 wr) := (HBD.out.trans (below_le HC8.out HBD.out.size)).trans (below_le HB.out (by have := HBD.out.size; have := HC8.out.size; omega))
                    rw [hE]
                    cases hent : isEnt s x e gen with
                    | false =>
                      have HE := hide hent
                      clear hent hE
                      go_wp2
                      go_ret2
                      obtain rfl := HX.out
                      exact rscan_end hp.out HE.out HB2.out
                    | true =>
                      have HE := hide hent
                      obtain rfl := HX.out
                      have hs2 := hp.out.2.2.size
                      obtain ⟨v', w9, hrun, hrows, hb9⟩ := run_rows (hp.out.2.1.below HB2.out) (by have := HB2.out.size; omega) (by have := hp.out.bound; omega) a L c HLL.out.symm (HRW8.out.below HB.out) (fun h0 y hy => by
                        have h1 := HBK.out y hy
                        refine ⟨by have := HBD.out.size; omega, fun e2 => ?_⟩
                        obtain ⟨vs, ho, _⟩ := hp.out.2.1
                        have := ownBlock_lt ho _ e2
                        have := HBD.out.size
                        omega)
                      have HR := hide hrun
                      have HS := hide (hp.out.step hent hrows ((below_le HB2.out hs2).trans hb9))
                      have HPS : Hid (pos s at_ (k + 1) = pos s at_ k + i) := by show pos s at_ k + cnt (lenAt s (pos s at_ k)) = _; rw [HLL.out, HCC2.out]
                      clear hent hE hrun hrows hb9 hs2
                      go_wp2_with ((with_reducible refine wpl_append _ _ 29 _ (.slice (some ⟨wr.heap.size, 0, none⟩) 1 1) _ ?_ ?_ HR.out ?_); (· rfl); (· rfl))
                      exact ⟨⟨k + 1, pos s at_ k + i, HPS.out.symm, by go_num, HS⟩, by simp [intOf]; have := HCL.out; omega⟩
          · have HNF : Hid (isEnt s x e gen = false) := isEnt_false1 (by
              rw [HLL.out]
              cases hh : fit s.n x e L with
              | false => rfl
              | true => exact absurd ((HFIT.out L).1 hh) hroom)
            have hroom' : m - (x : Int) < (cnt L : Int) := by omega
            clear hroom
            generalize cnt L = C at *
            go_wp2
            go_ret2
            obtain rfl := HX.out
            exact rscan_end hp.out HNF.out HBD.out
      · have hne : ((num (s.now x) : Int) != (gen : Int)) = true := by simp; omega
        have HNG := hide (num_gen (e := e) (by omega) hng)
        clear hng
        generalize num (s.now x) = NG at *
        go_wp2
        go_ret2
        obtain rfl := HX.out
        exact rscan_end hp.out HNG.out HBD.out
    · have HNF : Hid (isEnt s x e gen = false) := isEnt_false1 (by
        cases hh : fit s.n x e (lenAt s x) with
        | false => rfl
        | true => have := (fit_iff _ _ _ _).1 hh; omega)
      generalize min e (s.n : Int) = m at *
      go_wp2
      go_ret2
      obtain rfl := HX.out
      exact rscan_end hp.out HNF.out (Below.refl _ _)
end Go.Proofs.Ytolbifboibjgcaa
