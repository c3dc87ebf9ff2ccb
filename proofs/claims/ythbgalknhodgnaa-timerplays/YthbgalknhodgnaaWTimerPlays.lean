/- TimerPlays' walk. -/
import Derived.Test.YthbgalknhodgnaaTmP
import Derived.Test.YthbgalknhodgnaaTmO
import Derived.Test.YthbgalknhodgnaaTpT
import Derived.Deep.CutRange
import Derived.Deep.QuietTactic
import Derived.BigQuiet
namespace Go.Proofs.Ythbgalknhodgnaa
open Go.RowKit
set_option maxRecDepth 100000

set_option maxHeartbeats 16000000 in
theorem timerPlays_in (a0 : Option Addr) (c0 n : Nat) (acts : List Tk) (w : World) (hn : n = acts.length) (h100 : n ≤ 100) (hr : TksRd w a0 acts) (hz : ∀ x ∈ acts, x.name.size ≤ 281474976710656) :
    Calls Try.prog 3 #[.slice a0 n c0] w fun e w' => e = .returned (.bool true) ∧ Below w.heap.size w w' := by
  have HR := hide hr
  have HZ := hide hz
  have HN := hide hn
  clear hr hz hn
  have hn100 : (n : Int) ≤ 100 := by omega
  have dn : decide ((100 : Int) < (n : Int)) = false := decide_eq_false (by omega)
  go_enter Try.func3, Try.ntmps3
  go_wp2_with fail
  refine (new_any w).mono ?_
  rintro e w1 ⟨rfl, t1, b1⟩
  have HP1 : Hid (PlT w.heap.size w1 [] (.slice none 0 0) (.slice none 0 0)) := ⟨t1, own_nil _ _ _ _, own_nil _ _ _ _⟩
  have HB1 := hide b1
  clear t1 b1
  go_wp2
  go_loopw [4, 5, 6] (fun ls vs i wq => ∃ (k : Nat) (T : List Nm), k ≤ n ∧ i = .int .i64 k ∧ Hid (PlT w.heap.size wq T ls vs) ∧ Hid (Below w.heap.size w wq) ∧ Hid (T.length ≤ k)) (fun _ _ i _ => n - (intOf i).toNat)
  case atStart => exact ⟨0, [], Nat.zero_le _, rfl, HP1, HB1, Nat.le_refl _⟩
  case round =>
    clear HP1 HB1
    obtain ⟨k, T, hk, rfl, HP, HB, HL⟩ := hrel
    obtain ⟨la, lc, rfl⟩ := slice_of HP.out.lo
    obtain ⟨va, vc, rfl⟩ := slice_of HP.out.vo
    by_cases hlt : k < n
    · obtain ⟨⟨wh, M, nm⟩, hact⟩ : ∃ t, acts[k]? = some t := ⟨acts[k]'(by have := HN.out; omega), by simp [← HN.out, hlt]⟩
      have HNm : Hid (nm.size ≤ 281474976710656) := HZ.out _ (List.mem_of_getElem? hact)
      obtain ⟨ga, oa, rfl, hra⟩ := HR.out (by have := HN.out; omega)
      obtain ⟨q0, q1, q2⟩ := hra k _ hact
      have hgz := World.block_lt_of_cell? w _ q0
      simp only at hgz q0 q1 q2
      rw [← HB.out.cell (p := ⟨ga, oa + k * 3, none⟩) hgz] at q0
      rw [← HB.out.cell (p := ⟨ga, oa + k * 3 + 1, none⟩) hgz] at q1
      rw [← HB.out.cell (p := ⟨ga, oa + k * 3 + 2, none⟩) hgz] at q2
      have hk0 : (0 : Int) ≤ (k : Int) := Int.natCast_nonneg _
      have hki : (k : Int) < (n : Int) := by omega
      clear hact hgz hra
      have hT : T.length ≤ 100 := by have := HL.out; omega
      have HPb : Hid (PlT w.heap.size (wr.alloc (.cells #[.int .i64 wh, .int .i64 M, .string nm] 29)) T (.slice la T.length lc) (.slice va T.length vc)) := HP.out.later ((Below.refl _ _).alloc (Nat.le_refl _) _)
      have HBb : Hid (Below w.heap.size w (wr.alloc (.cells #[.int .i64 wh, .int .i64 M, .string nm] 29))) := HB.out.alloc HB.out.size _
      have b0 : (wr.alloc (.cells #[.int .i64 wh, .int .i64 M, .string nm] 29)).cell? ⟨wr.heap.size, 0, none⟩ = some (.int .i64 wh) := by simp [go_sem]
      have b1 : (wr.alloc (.cells #[.int .i64 wh, .int .i64 M, .string nm] 29)).cell? ⟨wr.heap.size, 1, none⟩ = some (.int .i64 M) := by simp [go_sem]
      have b2 : (wr.alloc (.cells #[.int .i64 wh, .int .i64 M, .string nm] 29)).cell? ⟨wr.heap.size, 2, none⟩ = some (.string nm) := by simp [go_sem]
      have hzb : wr.heap.size < (wr.alloc (.cells #[.int .i64 wh, .int .i64 M, .string nm] 29)).heap.size := by simp
      have HXl : Hid (¬ (Value.slice la T.length lc).ownBlock = some wr.heap.size ∧ ¬ (Value.slice va T.length vc).ownBlock = some wr.heap.size ∧ w.heap.size < wr.heap.size) := ⟨fun h => by have := (own_lt HP.out.lo _ h).2; omega, fun h => by have := (own_lt HP.out.vo _ h).2; omega, by have := HP.out.tm.lt; omega⟩
      go_wp2_with fail
      generalize (wr.alloc (.cells #[.int .i64 wh, .int .i64 M, .string nm] 29)) = wb at *
      generalize wr.heap.size = X at *
      clear HP HB q0 q1 q2
      obtain ⟨tn, htn⟩ : ∃ tn, tn = T.length := ⟨_, rfl⟩
      have HTn := hide htn
      rw [← htn]
      rw [← htn] at hT
      clear htn
      go_loopw [8, 9] (fun at_ i wq => ∃ j q : Nat, j ≤ tn ∧ at_ = .int .i64 (atN T nm j) ∧ i = .int .i64 j ∧ wq = wb.drewN q) (fun _ i _ => tn - (intOf i).toNat)
      case atStart => exact ⟨0, 0, Nat.zero_le _, rfl, rfl, rfl⟩
      case round =>
        obtain ⟨j, q, hj, rfl, rfl, rfl⟩ := hrel
        by_cases hjt : j < tn
        · obtain ⟨⟨Y, Z⟩, hTj⟩ : ∃ t, T[j]? = some t := ⟨T[j]'(by have := HTn.out; omega), by simp [← HTn.out, hjt]⟩
          obtain ⟨g, c, hv, _, _⟩ := HPb.out.lo.form (by have := HTn.out; omega)
          obtain ⟨rfl, rfl⟩ : la = some ⟨g, 0, none⟩ ∧ lc = c := by cases hv; exact ⟨rfl, rfl⟩
          have y0 : wb.cell? ⟨g, j, none⟩ = some (.string Y) := by rw [HPb.out.lo.cellAt j (by have := HTn.out; omega)]; exact (getElem_names hTj).1
          clear hv
          have hji : (j : Int) < (tn : Int) := by omega
          have hj0 : (0 : Int) ≤ (j : Int) := by omega
          by_cases he : Y = nm
          · subst he
            have HU : Hid (atN T Y (j + 1) = (j : Int)) := by
              show atN T Y (j + 1) = (j : Int)
              unfold atN
              rw [if_pos (by rw [hTj]; rfl)]
            clear hTj
            generalize atN T Y j = u at *
            go_wp2_with fail
            go_quiet (fail)
            go_wp2
            exact ⟨⟨j + 1, q + nq, by omega, by rw [HU.out], by go_num, rfl⟩, by simp [intOf]; omega⟩
          · have HU : Hid (atN T nm (j + 1) = atN T nm j) := by
              show atN T nm (j + 1) = _
              rw [atN, if_neg (by rw [hTj]; simpa using he)]
            have hn1 : (Y.toList == nm.toList) = false := beq_neN he
            have hn2 : ¬ Y.toList = nm.toList := by simpa using hn1
            clear hTj
            generalize atN T nm j = u at *
            go_wp2_with fail
            go_quiet (fail)
            go_wp2
            exact ⟨⟨j + 1, q + nq, by omega, by rw [HU.out], by go_num, rfl⟩, by simp [intOf]; omega⟩
        · obtain rfl : j = tn := by omega
          have HPq : Hid (PlT w.heap.size (wb.drewN q) T (.slice la j lc) (.slice va j vc)) := by
            have := HPb.out.later (w' := wb.drewN q) ⟨rfl, rfl, rfl, Nat.le_refl _, fun _ _ => rfl⟩
            rw [← HTn.out] at this
            exact this
          have HBq : Hid (Below w.heap.size w (wb.drewN q)) := below_drewN HBb.out q
          have e0 : (wb.drewN q).cell? ⟨X, 0, none⟩ = some (.int .i64 wh) := b0
          have e1 : (wb.drewN q).cell? ⟨X, 1, none⟩ = some (.int .i64 M) := b1
          have e2 : (wb.drewN q).cell? ⟨X, 2, none⟩ = some (.string nm) := b2
          have hze : X < (wb.drewN q).heap.size := hzb
          have dj : decide ((j : Int) < (j : Int)) = false := decide_eq_false (by omega)
          clear b0 b1 b2 hzb HPb HBb hjt hj
          go_wp2_with fail
          generalize wb.drewN q = we at *
          refine (at_any w.heap.size T nm we HPq.out.tm).mono ?_
          rintro e wg ⟨m, z, rfl, hl, rfl⟩
          have HLk := hide (look_is HPq.out.tm.nodup hl)
          rw [← HTn.out] at HLk
          clear hl
          obtain ⟨u, hu⟩ : ∃ u, u = atN T nm j := ⟨_, rfl⟩
          rw [← hu] at HLk ⊢
          clear hu
          go_upto_region 17 with fail
          go_cut [74] from 21 to 223 (fun s74 wx => s74 = .bool false ∧ wx = wg)
          case first =>
            rcases HLk.out with ⟨rfl, rfl, hu, hno⟩ | ⟨i, rfl, hi, hu, hTi⟩
            · as_aux_lemma =>
                subst hu
                go_wp2
                go_meet
                exact ⟨rfl, rfl⟩
            · as_aux_lemma =>
                subst hu
                obtain ⟨gv, c9, hv9, _, _⟩ := HPq.out.vo.form (by have := HTn.out; omega)
                rw [← HTn.out] at hv9
                obtain ⟨rfl, rfl⟩ : va = some ⟨gv, 0, none⟩ ∧ vc = c9 := by cases hv9; exact ⟨rfl, rfl⟩
                have hvo := HPq.out.vo
                rw [← HTn.out] at hvo
                have vi : wg.cell? ⟨gv, i, none⟩ = some (.int .i64 m) := by rw [hvo.cellAt i (by omega)]; exact (getElem_names hTi).2
                have hi0 : (0 : Int) ≤ (i : Int) := Int.natCast_nonneg _
                have hi1 : (i : Int) < (j : Int) := by omega
                clear hv9 hvo hTi
                go_wp2
                go_meet
                exact ⟨rfl, rfl⟩
          case rest =>
            obtain ⟨rfl, rfl⟩ := hcut
            by_cases w0 : wh = 0
            · subst w0
              go_wp2_with fail
              refine (set_any w.heap.size T nm M _ HPq.out.tm HNm.out).mono ?_
              rintro e ws ⟨rfl, ts, ks⟩
              have hnd := HPq.out.tm.nodup
              obtain ⟨ol, ov⟩ := HPq.out.turned ts ks
              rw [← HTn.out] at ol ov
              have HTs := hide ts
              have HLs := hide ol
              have HVs := hide ov
              have HBs : Hid (Below w.heap.size w ws) := HBq.out.trans (ks.below _ HBq.out.size (fun x hx => by subst hx; exact Nat.le_refl _))
              have hXn : ¬ X = w.heap.size := by have := HXl.out.2.2; omega
              rw [← ks.cell ⟨X, 0, none⟩ hze hXn] at e0
              rw [← ks.cell ⟨X, 1, none⟩ hze hXn] at e1
              rw [← ks.cell ⟨X, 2, none⟩ hze hXn] at e2
              have hzs : X < ws.heap.size := Nat.lt_of_lt_of_le hze ks.size
              clear ts ks ol ov HPq HBq hze
              rcases HLk.out with ⟨_, _, hu, hno⟩ | ⟨i, _, hi, hu, hTi⟩
              · skip
                subst hu
                have HPm := hide (put_new M hno)
                have HXf : Hid (¬ ((Value.slice la j lc).ownBlock = some X ∨ (Value.slice va j vc).ownBlock = some X)) := fun h => by
                  have hx := HXl.out
                  rw [← HTn.out] at hx
                  rcases h with h | h
                  · exact hx.1 h
                  · exact hx.2.1 h
                clear hno hnd
                go_wp2_with fail
                refine region_pre2 (fun W => Keeps (fun b => (Value.slice la j lc).ownBlock = some b ∨ (Value.slice va j vc).ownBlock = some b) ws W) [0, 1, 2, 5, 6, 7] 6 (lstM 0 0) (by kernel_rfl) (by kernel_rfl) (by rfl) (by kernel_rfl) (by kernel_rfl) ((Keeps.refl _ ws).drew) ?_
                repeat refine pre_q (by rfl) (by rfl) (fun w9 h9 => (by have s1 := (h9.cell ⟨X, 1, none⟩ hzs HXf.out).trans e1; have s2 := (h9.cell ⟨X, 2, none⟩ hzs HXf.out).trans e2; clear h9; go_simp; first | done | rfl)) (by go_simp; first | done | rfl) ?_
                show wpAnyH _ _ _ _ _ _ _ _ _
                refine more_rows _ ws (by rfl) ⟨_, _, rfl⟩ ⟨_, _, rfl⟩ ⟨_, _, rfl⟩ ⟨_, _, rfl⟩ ⟨_, _, _, rfl⟩ ⟨_, _, _, rfl⟩ (by kernel_rfl) (by kernel_rfl) (by kernel_rfl) (by kernel_rfl) w.heap.size j nm M _ _ (scells (T.map Prod.fst)) (vcells (T.map Prod.snd)) (by omega) (by rfl) (by rfl) (by rfl) (by rfl) HLs.out HVs.out HBs.out.size ?_ ws.drew ⟨rfl, rfl, rfl, Nat.le_refl _, fun _ _ => rfl⟩
                intro W u1 u2 x1 x2 x3 x4 ho1 ho2 hk9 hw1 hw2
                refine ⟨fun _ h => (by cases h), ?_⟩
                obtain ⟨la1, lc1, rfl⟩ := slice_of ho1
                obtain ⟨va1, vc1, rfl⟩ := slice_of ho2
                have HBW : Hid (Below w.heap.size w W) := HBs.out.trans (hk9.below _ HBs.out.size fun b hb => by
                  rcases hb with h | h
                  · exact (own_lt HLs.out b h).1
                  · exact (own_lt HVs.out b h).1)
                have hlen : (T ++ [(nm, M)]).length = j + 1 := by rw [List.length_append, ← HTn.out]; rfl
                have HPW : Hid (PlT w.heap.size W (T ++ [(nm, M)]) (.slice la1 (j + 1) lc1) (.slice va1 (j + 1) vc1)) := by
                  have a1 := HTs.out.apart HLs.out (.inl rfl)
                  have a2 := HTs.out.apart HVs.out (.inr rfl)
                  refine ⟨(HTs.out.keeps2 hk9 (fun h => ?_) (fun h => ?_)).perm HPm.out, ?_, ?_⟩
                  · rcases h with h | h
                    · exact a1.1 h
                    · exact a2.1 h
                  · rcases h with h | h
                    · exact a1.2 h
                    · exact a2.2 h
                  · rw [hlen, List.map_append, scells_app]; exact ho1
                  · rw [hlen, List.map_append, vcells_app]; exact ho2
                have HLl : Hid ((T ++ [(nm, M)]).length ≤ k + 1) := by show _ ≤ _; rw [hlen]; have := HL.out; have := HTn.out; omega
                clear ho1 ho2 hk9 hw1 hw2 hlen
                go_wp2
                exact ⟨⟨k + 1, _, by omega, by go_num, HPW, HBW, HLl⟩, by simp [intOf]; omega⟩
              · as_aux_lemma =>
                  subst hu
                  have HPm := hide (put_there hnd M hTi)
                  obtain ⟨gv, c9, hv9, _, _⟩ := HVs.out.form (by omega)
                  obtain ⟨rfl, rfl⟩ : va = some ⟨gv, 0, none⟩ ∧ vc = c9 := by cases hv9; exact ⟨rfl, rfl⟩
                  have vi : ws.cell? ⟨gv, i, none⟩ = some (.int .i64 m) := by rw [HVs.out.cellAt i (by omega)]; exact (getElem_names hTi).2
                  have hi0 : (0 : Int) ≤ (i : Int) := Int.natCast_nonneg _
                  have hi1 : (i : Int) < (j : Int) := by omega
                  have hst := HVs.out.stored i (.int .i64 M)
                  have hfz := HVs.out.frozenAt i
                  have hvs : (vcells (T.map Prod.snd)).set i (.int .i64 M) = vcells ((T.set i (nm, M)).map Prod.snd) := by rw [vcells_set, List.map_set]
                  have hls := set_names M hTi
                  have hlen : (T.set i (nm, M)).length = j := by rw [List.length_set, HTn.out]
                  have hk9 : Keeps (fun b => (Value.slice (some ⟨gv, 0, none⟩) j vc).ownBlock = some b) ws (ws.setCell ⟨gv, i, none⟩ (.int .i64 M)) := (Keeps.refl _ ws).grown hst.2 (fun b e => .inl e)
                  have HBW : Hid (Below w.heap.size w (ws.setCell ⟨gv, i, none⟩ (.int .i64 M))) := HBs.out.trans (hk9.below _ HBs.out.size fun b hb => (own_lt HVs.out b hb).1)
                  have HPW : Hid (PlT w.heap.size (ws.setCell ⟨gv, i, none⟩ (.int .i64 M)) (T.set i (nm, M)) (.slice la j lc) (.slice (some ⟨gv, 0, none⟩) j vc)) := by
                    have a2 := HTs.out.apart HVs.out (.inr rfl)
                    refine ⟨(HTs.out.keeps2 hk9 a2.1 a2.2).perm HPm.out, ?_, ?_⟩
                    · rw [hlen, hls]; exact own_keep HLs.out hk9 (fun b hb e9 => rows_apart HLs.out HVs.out (by decide) b hb e9)
                    · rw [hlen, ← hvs]; exact hst.1
                  have HLl : Hid ((T.set i (nm, M)).length ≤ k + 1) := by show _ ≤ _; rw [hlen]; have := HL.out; have := HTn.out; omega
                  clear hst hvs hls hlen hk9 hTi hnd hv9
                  go_wp2
                  exact ⟨⟨k + 1, _, by omega, by go_num, HPW, HBW, HLl⟩, by simp [intOf]; omega⟩
            · by_cases w1 : wh = 1
              · subst w1
                go_wp2_with fail
                refine (stop_any w.heap.size T nm _ HPq.out.tm).mono ?_
                rintro e ws ⟨rfl, ts, ks⟩
                have hnd := HPq.out.tm.nodup
                obtain ⟨ol, ov⟩ := HPq.out.turned ts ks
                rw [← HTn.out] at ol ov
                have HTs := hide ts
                have HLs := hide ol
                have HVs := hide ov
                have HBs : Hid (Below w.heap.size w ws) := HBq.out.trans (ks.below _ HBq.out.size (fun x hx => by subst hx; exact Nat.le_refl _))
                have hXn : ¬ X = w.heap.size := by have := HXl.out.2.2; omega
                rw [← ks.cell ⟨X, 0, none⟩ hze hXn] at e0
                rw [← ks.cell ⟨X, 1, none⟩ hze hXn] at e1
                rw [← ks.cell ⟨X, 2, none⟩ hze hXn] at e2
                have hzs : X < ws.heap.size := Nat.lt_of_lt_of_le hze ks.size
                clear ts ks ol ov HPq HBq hze
                rcases HLk.out with ⟨_, _, hu, hno⟩ | ⟨i, _, hi, hu, hTi⟩
                · as_aux_lemma =>
                    subst hu
                    have HPW : Hid (PlT w.heap.size ws T (.slice la j lc) (.slice va j vc)) := by
                      have h1 := HTs.out
                      rw [delN_none hno] at h1
                      refine ⟨h1, ?_, ?_⟩
                      · rw [← HTn.out]; exact HLs.out
                      · rw [← HTn.out]; exact HVs.out
                    have HLl : Hid (T.length ≤ k + 1) := Nat.le_succ_of_le HL.out
                    clear hno hnd
                    go_wp2
                    exact ⟨⟨k + 1, _, by omega, by go_num, HPW, HBs, HLl⟩, by simp [intOf]; omega⟩
                · skip
                  subst hu
                  have HDl := hide (delN_at hnd hTi)
                  clear hTi hnd e0 e1 e2
                  obtain ⟨g, c, hv, _, _⟩ := HLs.out.form (by omega)
                  obtain ⟨rfl, rfl⟩ : la = some ⟨g, 0, none⟩ ∧ lc = c := by cases hv; exact ⟨rfl, rfl⟩
                  obtain ⟨gv, c9, hv9, _, _⟩ := HVs.out.form (by omega)
                  obtain ⟨rfl, rfl⟩ : va = some ⟨gv, 0, none⟩ ∧ vc = c9 := by cases hv9; exact ⟨rfl, rfl⟩
                  have hi0 : (0 : Int) ≤ (i : Int) := Int.natCast_nonneg _
                  have hw1 : IntKind.i64.wrap ((i : Int) + 1) = (i : Int) + 1 := by rw [IntKind.wrap_i64]; omega
                  have hcl : j ≤ lc := by
                    rcases HLs.out.2 with ⟨h, _⟩ | ⟨g2, cap, cur, h, _, _, h2, _⟩
                    · cases h
                    · cases h; exact h2
                  have hcv : j ≤ vc := by
                    rcases HVs.out.2 with ⟨h, _⟩ | ⟨g2, cap, cur, h, _, _, h2, _⟩
                    · cases h
                    · cases h; exact h2
                  have q1 : i ≤ lc := by omega
                  have q2 : i ≤ vc := by omega
                  have q3 : i + 1 ≤ j := by omega
                  have q4 : i + 1 ≤ lc := by omega
                  have q5 : i + 1 ≤ vc := by omega
                  have q6 : (i : Int) ≤ (lc : Int) := by omega
                  have q7 : (i : Int) ≤ (vc : Int) := by omega
                  have q8 : (i : Int) + 1 ≤ (j : Int) := by omega
                  clear hv hv9
                  go_wp2_with fail
                  refine region_pre2 (fun W => Below ws.heap.size ws W) [1, 2, 3, 5, 6, 7, 8, 11, 12, 13, 15, 16, 17, 18] 8 (lstG 0 0) (by kernel_rfl) (by kernel_rfl) (by rfl) (by kernel_rfl) (by kernel_rfl) ⟨rfl, rfl, rfl, Nat.le_refl _, fun _ _ => rfl⟩ ?_
                  repeat refine pre_q (by rfl) (by rfl) (fun w9 h9 => (by clear h9; go_simp; first | done | rfl)) (by go_simp; first | done | rfl) ?_
                  show wpAnyH _ _ _ _ _ _ _ _ _
                  refine gone_rows _ ws (by rfl) ⟨_, _, rfl⟩ ⟨_, _, rfl⟩ ⟨_, _, rfl⟩ ⟨_, _, rfl⟩ ⟨_, _, rfl⟩ ⟨_, _, rfl⟩ ⟨_, _, _, rfl⟩ ⟨_, _, _, rfl⟩ (by kernel_rfl) (by kernel_rfl) (by kernel_rfl) (by kernel_rfl) _ _ _ _ _ _ _ _ _ _ ((T.take i).map Prod.fst) ((T.drop (i + 1)).map Prod.fst) ((T.take i).map Prod.snd) ((T.drop (i + 1)).map Prod.snd) (by rfl) (by rfl) (by rfl) (by rfl) ?lX ?lY ?lU ?lZ ?hn ?cX ?cY ?cU ?cZ ?fin ws.drew ⟨rfl, rfl, rfl, Nat.le_refl _, fun _ _ => rfl⟩
                  case lX => rw [List.length_map, List.length_take]; have := HTn.out; omega
                  case lY => rw [List.length_map, List.length_drop]; have := HTn.out; omega
                  case lU => rw [List.length_map, List.length_take]; have := HTn.out; omega
                  case lZ => rw [List.length_map, List.length_drop]; have := HTn.out; omega
                  case hn => omega
                  case cX => exact cells_part HLs.out [] _ (scells ((T.drop i).map Prod.fst)) (by rw [List.nil_append, ← scells_app, ← List.map_append, List.take_append_drop]) 0 rfl
                  case cY =>
                    by_cases hce : lc = i + 1
                    · exact .inl (by rw [List.drop_eq_nil_of_le (by have := HTn.out; omega)]; rfl)
                    · rw [if_neg hce]
                      exact cells_part HLs.out (scells ((T.take (i + 1)).map Prod.fst)) _ [] (by rw [List.append_nil, ← scells_app, ← List.map_append, List.take_append_drop]) _ (by rw [scells_length, List.length_map, List.length_take]; have := HTn.out; omega)
                  case cU => exact cells_part HVs.out [] _ (vcells ((T.drop i).map Prod.snd)) (by rw [List.nil_append, ← vcells_app, ← List.map_append, List.take_append_drop]) 0 rfl
                  case cZ =>
                    by_cases hce : vc = i + 1
                    · exact .inl (by rw [List.drop_eq_nil_of_le (by have := HTn.out; omega)]; rfl)
                    · rw [if_neg hce]
                      exact cells_part HVs.out (vcells ((T.take (i + 1)).map Prod.snd)) _ [] (by rw [List.append_nil, ← vcells_app, ← List.map_append, List.take_append_drop]) _ (by rw [vcells_length, List.length_map, List.length_take]; have := HTn.out; omega)
                  case fin =>
                    intro W u1 u2 x1 x2 x3 x4 x5 x6 ho1 ho2 hbW
                    refine ⟨fun _ h => (by cases h), ?_⟩
                    obtain ⟨la1, lc1, rfl⟩ := slice_of ho1
                    obtain ⟨va1, vc1, rfl⟩ := slice_of ho2
                    have HBW : Hid (Below w.heap.size w W) := HBs.out.trans (hbW.mono HBs.out.size)
                    have hlen : (T.take i ++ T.drop (i + 1)).length = i + (j - (i + 1)) := by rw [List.length_append, List.length_take, List.length_drop]; have := HTn.out; omega
                    have HPW : Hid (PlT w.heap.size W (T.take i ++ T.drop (i + 1)) (.slice la1 (i + (j - (i + 1))) lc1) (.slice va1 (i + (j - (i + 1))) vc1)) := by
                      refine ⟨?_, ?_, ?_⟩
                      · have := HTs.out.later hbW
                        rw [HDl.out] at this
                        exact this
                      · rw [hlen, List.map_append, scells_app]; exact own_base1 ho1 HBs.out.size
                      · rw [hlen, List.map_append, vcells_app]; exact own_base1 ho2 HBs.out.size
                    have HLl : Hid ((T.take i ++ T.drop (i + 1)).length ≤ k + 1) := by show _ ≤ _; rw [hlen]; have := HL.out; have := HTn.out; omega
                    clear ho1 ho2 hbW hlen
                    go_wp2
                    exact ⟨⟨k + 1, _, by omega, by go_num, HPW, HBW, HLl⟩, by simp [intOf]; omega⟩
              · skip
                have hw0 : (wh == 0) = false := by simpa using w0
                have hw1 : (wh == 1) = false := by simpa using w1
                go_wp2_with fail
                go_loopw [8, 12] (fun at_ i wq => ∃ y q : Nat, y ≤ j ∧ at_ = .int .i64 (bestN T M y) ∧ i = .int .i64 y ∧ wq = wc.drewN q) (fun _ i _ => j - (intOf i).toNat)
                case atStart => exact ⟨0, 0, Nat.zero_le _, rfl, rfl, rfl⟩
                case round =>
                  obtain ⟨y, q, hy, rfl, rfl, rfl⟩ := hrel
                  by_cases hyt : y < j
                  · obtain ⟨⟨Y, Z⟩, hTy⟩ : ∃ t, T[y]? = some t := ⟨T[y]'(by have := HTn.out; omega), by simp [← HTn.out, hyt]⟩
                    have hlo := HPq.out.lo
                    have hvo := HPq.out.vo
                    rw [← HTn.out] at hlo hvo
                    obtain ⟨g, c, hv, _, _⟩ := hlo.form (by omega)
                    obtain ⟨rfl, rfl⟩ : la = some ⟨g, 0, none⟩ ∧ lc = c := by cases hv; exact ⟨rfl, rfl⟩
                    obtain ⟨gv, c9, hv9, _, _⟩ := hvo.form (by omega)
                    obtain ⟨rfl, rfl⟩ : va = some ⟨gv, 0, none⟩ ∧ vc = c9 := by cases hv9; exact ⟨rfl, rfl⟩
                    have y0 : wc.cell? ⟨g, y, none⟩ = some (.string Y) := by rw [hlo.cellAt y (by omega)]; exact (getElem_names hTy).1
                    have y1 : wc.cell? ⟨gv, y, none⟩ = some (.int .i64 Z) := by rw [hvo.cellAt y (by omega)]; exact (getElem_names hTy).2
                    clear hv hv9
                    have hyi : (y : Int) < (j : Int) := by omega
                    have hy0 : (0 : Int) ≤ (y : Int) := by omega
                    by_cases hZ : Z ≤ M
                    · rcases bestN_is T M y (by have := HTn.out; omega) with ⟨hb, _⟩ | ⟨b, ⟨Yb, Zb⟩, hby, hb, hTb, _, _⟩
                      · have HU := hide (bestN_first hTy hZ hb)
                        rw [hb]
                        clear hTy hb hlo hvo
                        as_aux_lemma =>
                          go_wp2_with fail
                          go_big_quiet (fail)
                          go_wp2
                          first | exact ⟨⟨y + 1, q + nq, by omega, by rw [HU.out], by go_num, rfl⟩, by simp [intOf]; omega⟩ | (go_roundw; case rel => ((repeat apply Exists.intro); exact ⟨⟨y + 1, q + nq, by omega, by rw [HU.out], by go_num, rfl⟩, rfl⟩); case measure => (simp [intOf]; omega))
                      · have x0 : wc.cell? ⟨g, b, none⟩ = some (.string Yb) := by rw [hlo.cellAt b (by omega)]; exact (getElem_names hTb).1
                        have x1 : wc.cell? ⟨gv, b, none⟩ = some (.int .i64 Zb) := by rw [hvo.cellAt b (by omega)]; exact (getElem_names hTb).2
                        have hb0 : (0 : Int) ≤ (b : Int) := Int.natCast_nonneg _
                        have hb1 : (b : Int) < (j : Int) := by omega
                        have hbn : decide ((b : Int) < 0) = false := decide_eq_false (by omega)
                        by_cases hZb : Z < Zb
                        · have HU := hide (bestN_less hTy hZ hb hTb (by simp [lessN, hZb]))
                          rw [hb]
                          clear hTy hb hTb hlo hvo
                          as_aux_lemma =>
                            go_wp2_with fail
                            go_big_quiet (fail)
                            go_wp2
                            first | exact ⟨⟨y + 1, q + nq, by omega, by rw [HU.out], by go_num, rfl⟩, by simp [intOf]; omega⟩ | (go_roundw; case rel => ((repeat apply Exists.intro); exact ⟨⟨y + 1, q + nq, by omega, by rw [HU.out], by go_num, rfl⟩, rfl⟩); case measure => (simp [intOf]; omega))
                        · have hZn : decide (Z < Zb) = false := decide_eq_false hZb
                          by_cases hZe : Z = Zb
                          · cases hbl : Op.bytesLess Y.toList Yb.toList with
                            | true =>
                              have HU := hide (bestN_less hTy hZ hb hTb (by simp [lessN, hZe, hbl]))
                              rw [hb]
                              subst hZe
                              clear hTy hb hTb hlo hvo
                              as_aux_lemma =>
                                go_wp2_with fail
                                go_big_quiet (fail)
                                go_wp2
                                first | exact ⟨⟨y + 1, q + nq, by omega, by rw [HU.out], by go_num, rfl⟩, by simp [intOf]; omega⟩ | (go_roundw; case rel => ((repeat apply Exists.intro); exact ⟨⟨y + 1, q + nq, by omega, by rw [HU.out], by go_num, rfl⟩, rfl⟩); case measure => (simp [intOf]; omega))
                            | false =>
                              have HU := hide (bestN_not hTy hb hTb (by simp [lessN, hZe, hbl]))
                              rw [hb]
                              subst hZe
                              clear hTy hb hTb hlo hvo
                              as_aux_lemma =>
                                go_wp2_with fail
                                go_big_quiet (fail)
                                go_wp2
                                first | exact ⟨⟨y + 1, q + nq, by omega, by rw [HU.out], by go_num, rfl⟩, by simp [intOf]; omega⟩ | (go_roundw; case rel => ((repeat apply Exists.intro); exact ⟨⟨y + 1, q + nq, by omega, by rw [HU.out], by go_num, rfl⟩, rfl⟩); case measure => (simp [intOf]; omega))
                          · have HU := hide (bestN_not hTy hb hTb (by simp [lessN, hZb, hZe]))
                            have hZq : (Z == Zb) = false := by simpa using hZe
                            rw [hb]
                            clear hTy hb hTb hlo hvo
                            as_aux_lemma =>
                              go_wp2_with fail
                              go_big_quiet (fail)
                              go_wp2
                              first | exact ⟨⟨y + 1, q + nq, by omega, by rw [HU.out], by go_num, rfl⟩, by simp [intOf]; omega⟩ | (go_roundw; case rel => ((repeat apply Exists.intro); exact ⟨⟨y + 1, q + nq, by omega, by rw [HU.out], by go_num, rfl⟩, rfl⟩); case measure => (simp [intOf]; omega))
                    · have HU := hide (bestN_no (k := y) hTy (show M < Z by omega))
                      have hZn : decide (Z ≤ M) = false := decide_eq_false hZ
                      clear hTy hlo hvo
                      generalize bestN T M y = uu at *
                      as_aux_lemma =>
                        go_wp2_with fail
                        go_big_quiet (fail)
                        go_wp2
                        first | exact ⟨⟨y + 1, q + nq, by omega, by rw [HU.out], by go_num, rfl⟩, by simp [intOf]; omega⟩ | (go_roundw; case rel => ((repeat apply Exists.intro); exact ⟨⟨y + 1, q + nq, by omega, by rw [HU.out], by go_num, rfl⟩, rfl⟩); case measure => (simp [intOf]; omega))
                  · obtain rfl : y = j := by omega
                    have HBy : Hid (Below w.heap.size w (wc.drewN q)) := below_drewN HBq.out q
                    have HPy : Hid (PlT w.heap.size (wc.drewN q) T (.slice la y lc) (.slice va y vc)) := HPq.out.later (w' := wc.drewN q) ⟨rfl, rfl, rfl, Nat.le_refl _, fun _ _ => rfl⟩
                    have g0 : (wc.drewN q).cell? ⟨X, 0, none⟩ = some (.int .i64 wh) := e0
                    have g1 : (wc.drewN q).cell? ⟨X, 1, none⟩ = some (.int .i64 M) := e1
                    have g2 : (wc.drewN q).cell? ⟨X, 2, none⟩ = some (.string nm) := e2
                    have hzy : X < (wc.drewN q).heap.size := hze
                    have dy : decide ((y : Int) < (y : Int)) = false := decide_eq_false (by omega)
                    clear e0 e1 e2 hze HPq HBq
                    go_wp2_with fail
                    generalize wc.drewN q = wy at *
                    refine (due_any w.heap.size T M wy HPy.out.tm).mono ?_
                    rintro e ws ⟨dn9, dm, dz, l', rfl, hd, ts, ks⟩
                    have hnd := HPy.out.tm.nodup
                    obtain ⟨ol, ov⟩ := HPy.out.turned ts ks
                    rw [← HTn.out] at ol ov
                    have HLs := hide ol
                    have HVs := hide ov
                    have HBs : Hid (Below w.heap.size w ws) := HBy.out.trans (ks.below _ HBy.out.size (fun x hx => by subst hx; exact Nat.le_refl _))
                    have hd9 := due_is hd
                    rw [← HTn.out] at hd9
                    clear ks ol ov HPy HBy hzy g0 g1 g2 hd
                    rcases hd9 with ⟨rfl, rfl, rfl, hb, rfl⟩ | ⟨i, rfl, hi, hb, hTi, rfl⟩
                    · rw [hb]
                      as_aux_lemma =>
                        have HPW : Hid (PlT w.heap.size ws l' (.slice la y lc) (.slice va y vc)) := by
                          refine ⟨ts, ?_, ?_⟩
                          · rw [← HTn.out]; exact HLs.out
                          · rw [← HTn.out]; exact HVs.out
                        have HLl : Hid (l'.length ≤ k + 1) := Nat.le_succ_of_le HL.out
                        clear hb ts hnd
                        go_wp2
                        exact ⟨⟨k + 1, _, by omega, by go_num, HPW, HBs, HLl⟩, by simp [intOf]; omega⟩
                    · rw [hb]
                      have HTs := hide ts
                      have HDl := hide (delN_at hnd hTi)
                      have HTi := hide hTi
                      have hlo := HLs.out
                      have hvo := HVs.out
                      obtain ⟨g, c, hv, _, _⟩ := hlo.form (by omega)
                      obtain ⟨rfl, rfl⟩ : la = some ⟨g, 0, none⟩ ∧ lc = c := by cases hv; exact ⟨rfl, rfl⟩
                      obtain ⟨gv, c9, hv9, _, _⟩ := hvo.form (by omega)
                      obtain ⟨rfl, rfl⟩ : va = some ⟨gv, 0, none⟩ ∧ vc = c9 := by cases hv9; exact ⟨rfl, rfl⟩
                      have y0 : ws.cell? ⟨g, i, none⟩ = some (.string dn9) := by rw [hlo.cellAt i (by omega)]; exact (getElem_names hTi).1
                      have y1 : ws.cell? ⟨gv, i, none⟩ = some (.int .i64 dm) := by rw [hvo.cellAt i (by omega)]; exact (getElem_names hTi).2
                      have hi1 : (i : Int) < (y : Int) := by omega
                      clear hb ts hnd hTi hv hv9 hlo hvo
                      have hi0 : (0 : Int) ≤ (i : Int) := Int.natCast_nonneg _
                      have hw1 : IntKind.i64.wrap ((i : Int) + 1) = (i : Int) + 1 := by rw [IntKind.wrap_i64]; omega
                      have hcl : y ≤ lc := by
                        rcases HLs.out.2 with ⟨h, _⟩ | ⟨g2, cap, cur, h, _, _, h2, _⟩
                        · cases h
                        · cases h; exact h2
                      have hcv : y ≤ vc := by
                        rcases HVs.out.2 with ⟨h, _⟩ | ⟨g2, cap, cur, h, _, _, h2, _⟩
                        · cases h
                        · cases h; exact h2
                      have q1 : i ≤ lc := by omega
                      have q2 : i ≤ vc := by omega
                      have q3 : i + 1 ≤ y := by omega
                      have q4 : i + 1 ≤ lc := by omega
                      have q5 : i + 1 ≤ vc := by omega
                      have q6 : (i : Int) ≤ (lc : Int) := by omega
                      have q7 : (i : Int) ≤ (vc : Int) := by omega
                      have q8 : (i : Int) + 1 ≤ (y : Int) := by omega
                      go_wp2_with fail
                      refine region_pre2 (fun W => Below ws.heap.size ws W) [1, 2, 3, 5, 6, 7, 8, 11, 12, 13, 15, 16, 17, 18] 8 (lstG 0 0) (by kernel_rfl) (by kernel_rfl) (by rfl) (by kernel_rfl) (by kernel_rfl) ⟨rfl, rfl, rfl, Nat.le_refl _, fun _ _ => rfl⟩ ?_
                      repeat refine pre_q (by rfl) (by rfl) (fun w9 h9 => (by clear h9; go_simp; first | done | rfl)) (by go_simp; first | done | rfl) ?_
                      show wpAnyH _ _ _ _ _ _ _ _ _
                      refine gone_rows _ ws (by rfl) ⟨_, _, rfl⟩ ⟨_, _, rfl⟩ ⟨_, _, rfl⟩ ⟨_, _, rfl⟩ ⟨_, _, rfl⟩ ⟨_, _, rfl⟩ ⟨_, _, _, rfl⟩ ⟨_, _, _, rfl⟩ (by kernel_rfl) (by kernel_rfl) (by kernel_rfl) (by kernel_rfl) _ _ _ _ _ _ _ _ _ _ ((T.take i).map Prod.fst) ((T.drop (i + 1)).map Prod.fst) ((T.take i).map Prod.snd) ((T.drop (i + 1)).map Prod.snd) (by rfl) (by rfl) (by rfl) (by rfl) ?lX ?lY ?lU ?lZ ?hn ?cX ?cY ?cU ?cZ ?fin ws.drew ⟨rfl, rfl, rfl, Nat.le_refl _, fun _ _ => rfl⟩
                      case lX => rw [List.length_map, List.length_take]; have := HTn.out; omega
                      case lY => rw [List.length_map, List.length_drop]; have := HTn.out; omega
                      case lU => rw [List.length_map, List.length_take]; have := HTn.out; omega
                      case lZ => rw [List.length_map, List.length_drop]; have := HTn.out; omega
                      case hn => omega
                      case cX => exact cells_part HLs.out [] _ (scells ((T.drop i).map Prod.fst)) (by rw [List.nil_append, ← scells_app, ← List.map_append, List.take_append_drop]) 0 rfl
                      case cY =>
                        by_cases hce : lc = i + 1
                        · exact .inl (by rw [List.drop_eq_nil_of_le (by have := HTn.out; omega)]; rfl)
                        · rw [if_neg hce]
                          exact cells_part HLs.out (scells ((T.take (i + 1)).map Prod.fst)) _ [] (by rw [List.append_nil, ← scells_app, ← List.map_append, List.take_append_drop]) _ (by rw [scells_length, List.length_map, List.length_take]; have := HTn.out; omega)
                      case cU => exact cells_part HVs.out [] _ (vcells ((T.drop i).map Prod.snd)) (by rw [List.nil_append, ← vcells_app, ← List.map_append, List.take_append_drop]) 0 rfl
                      case cZ =>
                        by_cases hce : vc = i + 1
                        · exact .inl (by rw [List.drop_eq_nil_of_le (by have := HTn.out; omega)]; rfl)
                        · rw [if_neg hce]
                          exact cells_part HVs.out (vcells ((T.take (i + 1)).map Prod.snd)) _ [] (by rw [List.append_nil, ← vcells_app, ← List.map_append, List.take_append_drop]) _ (by rw [vcells_length, List.length_map, List.length_take]; have := HTn.out; omega)
                      case fin =>
                        intro W u1 u2 x1 x2 x3 x4 x5 x6 ho1 ho2 hbW
                        refine ⟨fun _ h => (by cases h), ?_⟩
                        obtain ⟨la1, lc1, rfl⟩ := slice_of ho1
                        obtain ⟨va1, vc1, rfl⟩ := slice_of ho2
                        have HBW : Hid (Below w.heap.size w W) := HBs.out.trans (hbW.mono HBs.out.size)
                        have hlen : (T.take i ++ T.drop (i + 1)).length = i + (y - (i + 1)) := by rw [List.length_append, List.length_take, List.length_drop]; have := HTn.out; omega
                        have HPW : Hid (PlT w.heap.size W (T.take i ++ T.drop (i + 1)) (.slice la1 (i + (y - (i + 1))) lc1) (.slice va1 (i + (y - (i + 1))) vc1)) := by
                          refine ⟨?_, ?_, ?_⟩
                          · have := HTs.out.later hbW
                            rw [HDl.out] at this
                            exact this
                          · rw [hlen, List.map_append, scells_app]; exact own_base1 ho1 HBs.out.size
                          · rw [hlen, List.map_append, vcells_app]; exact own_base1 ho2 HBs.out.size
                        have HLl : Hid ((T.take i ++ T.drop (i + 1)).length ≤ k + 1) := by show _ ≤ _; rw [hlen]; have := HL.out; have := HTn.out; omega
                        clear ho1 ho2 hbW hlen
                        go_wp2
                        exact ⟨⟨k + 1, _, by omega, by go_num, HPW, HBW, HLl⟩, by simp [intOf]; omega⟩
    · obtain rfl : k = n := by omega
      have dk : decide ((k : Int) < (k : Int)) = false := decide_eq_false (by omega)
      go_wp2_with fail
      refine (answers_any _).mono ?_
      rintro e w2 ⟨rfl, hb2⟩
      have HB2 : Hid (Below w.heap.size w w2) := HB.out.trans (hb2.mono HB.out.size)
      clear hb2
      go_wp2
      go_ret
      exact ⟨rfl, HB2.out⟩
set_option maxHeartbeats 1600000 in
theorem timerPlays_many (a0 : Option Addr) (c0 n : Nat) (w : World) (hn : 100 < n) :
    Calls Try.prog 3 #[.slice a0 n c0] w fun e w' => e = .returned (.bool true) ∧ Below w.heap.size w w' := by
  have dn : decide ((100 : Int) < (n : Int)) = true := decide_eq_true (by omega)
  go_enter Try.func3, Try.ntmps3
  go_wp2_with fail
  refine (answers_any _).mono ?_
  rintro e w2 ⟨rfl, hb2⟩
  go_wp2
  go_ret
  exact ⟨rfl, hb2⟩
theorem timerPlays_walk (a0 : Option Addr) (c0 : Nat) (acts : List Tk) (w : World) (hz : ∀ x ∈ acts, x.name.size ≤ 281474976710656) (hr : TksRd w a0 acts) :
    Calls Try.prog 3 #[.slice a0 acts.length c0] w fun e w' => e = .returned (.bool true) ∧ Below w.heap.size w w' := by
  by_cases hn : 100 < acts.length
  · exact timerPlays_many a0 c0 _ w hn
  · exact timerPlays_in a0 c0 _ acts w rfl (by omega) hr hz
end Go.Proofs.Ythbgalknhodgnaa
