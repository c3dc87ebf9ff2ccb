/- PolicyNone's walk. -/
import Derived.Test.YtejbajjkbjaadaaPoN
namespace Go.Proofs.Ytejbajjkbjaadaa
open Go.RowKit
set_option maxRecDepth 100000

set_option maxHeartbeats 3200000 in
theorem pnone_in (A m : Nat) (L q pf : Int) (w : World) (hA : A < 4294967296) (hm : m < 16) (hq : q.tmod 16 = (m : Int)) :
    Calls Try.prog 5 #[pfx A L, .int .u8 q, .int .i64 pf] w fun e w' => e = .returned (.bool true) ∧ Below w.heap.size w w' := by
  unfold pfx
  go_enter Try.func5, Try.ntmps5
  go_wp2
  go_loopw [7, 8] (fun v i wq => ∃ (k : Nat) (a : Option Addr) (c : Nat), k ≤ m ∧ i = .int .i64 k ∧ v = .slice a k c ∧ Hid (NSt w wq A L pf (.slice a k c) k)) (fun _ i _ => m - (intOf i).toNat)
  case atStart => exact ⟨0, none, 0, Nat.zero_le _, rfl, rfl, ⟨own_nil _ _ _ _, (Below.refl _ _).alloc (Nat.le_refl _) _, by simp, by simp [go_sem], by simp [go_sem]⟩⟩
  case round =>
    obtain ⟨k, a, c, hk, rfl, rfl, HN⟩ := hrel
    by_cases hlt : k < m
    · obtain ⟨v', w', hr, hn⟩ := HN.out.more rfl (by omega)
      obtain ⟨a', c', e, _⟩ := hn.rules
      subst e
      have HR := hide hr
      have HN2 := hide hn
      clear hr hn
      go_wp2_with ((with_reducible refine wpl_append _ _ 22 _ (.slice (some ⟨wr.heap.size, 0, none⟩) 1 1) _ ?_ ?_ HR.out ?_); (· rfl); (· rfl))
      exact ⟨⟨k + 1, a', c', by omega, by go_num, rfl, HN2⟩, by simp [intOf]; omega⟩
    · obtain rfl : k = m := by omega
      clear hlt
      obtain ⟨a2, c2, e2, hri⟩ := HN.out.rules
      cases e2
      obtain ⟨x1, y1, h1⟩ : ∃ x y, applyR (noneL pf k) A L = (x, y) := ⟨_, _, rfl⟩
      obtain ⟨x2, y2, h2⟩ : ∃ x y, applyR (noneL pf k ++ [denyR]) A L = (x, y) := ⟨_, _, rfl⟩
      have HRI := hide hri
      have H1 := hide h1
      have H2 := hide h2
      clear hri h1 h2
      have p0 := HN.out.p0
      have p1 := HN.out.p1
      go_wp2_with fail
      refine (apply_is wr (by omega) (noneL_length pf k) HRI.out hA H1.out).mono ?_
      rintro e w1 ⟨rfl, hb1⟩
      have q0 : w1.cell? ⟨w.heap.size, 0, none⟩ = some (.int .u32 (A : Int)) := by rw [hb1.cell (p := ⟨w.heap.size, 0, none⟩) (World.block_lt_of_cell? wr _ p0)]; exact p0
      have q1 : w1.cell? ⟨w.heap.size, 1, none⟩ = some (.int .i64 L) := by rw [hb1.cell (p := ⟨w.heap.size, 1, none⟩) (World.block_lt_of_cell? wr _ p1)]; exact p1
      have HRI1 := hide (HRI.out.below hb1 (Nat.le_refl _))
      have HB1 : Hid (Below w.heap.size w w1) := HN.out.b.trans (hb1.mono HN.out.b.size)
      have hz : w.heap.size < w1.heap.size := World.block_lt_of_cell? w1 _ q0
      clear hb1 p0 p1 HN HRI
      go_wp2_with fail
      have qd : ∀ W, Below w1.heap.size w1 W → W.cell? ⟨w.heap.size, 0, none⟩ = some (.int .u32 (A : Int)) ∧ W.cell? ⟨w.heap.size, 1, none⟩ = some (.int .i64 L) := fun W hW => ⟨by rw [hW.cell (p := ⟨w.heap.size, 0, none⟩) hz]; exact q0, by rw [hW.cell (p := ⟨w.heap.size, 1, none⟩) hz]; exact q1⟩
      refine region_pre2 (fun W => Below w1.heap.size w1 W) [1, 3, 6] 10 #[false, true, false, true, false, false, true, false, false, false, false, false, false] (by kernel_rfl) (by kernel_rfl) (by rfl) (by kernel_rfl) (by rfl) (Below.refl _ _).drew ?_
      repeat refine pre_q (by rfl) (by rfl) (fun w9 h9 => (by obtain ⟨s0, s1⟩ := qd w9 h9; go_simp; first | done | rfl)) (by go_simp; first | done | rfl) ?_
      show wpAnyH _ _ _ _ _ _ _ _ _
      refine deny_orders (f := 7) (L0 := #[false, true, false, true, false, false, true, false, false, false, false, false, false]) (Lf := #[true, true, true, true, true, false, true, false, false, false, false, false, false]) _ w1 _ k c a (noneL pf k) (noneL_length pf k) (by omega) HRI1.out ⟨_, _, rfl⟩ ⟨_, _, rfl⟩ ⟨_, _, rfl⟩ (by kernel_rfl) (by kernel_rfl) (by kernel_rfl) (by kernel_rfl) (by kernel_rfl) (by kernel_rfl) (by rfl) (by rfl) (by rfl) (by rfl) (by rfl) (by rfl) (Below.refl _ _).drew ?_
      intro W xx v h hbW hoW hdW
      obtain ⟨v', w', hr, ho', hb'⟩ : ∃ v' w', (Builtin.append_ #[22, 22] 22 #[v, .slice (some ⟨h, 0, none⟩) 1 1]).run Try.prog W = .ok v' w' ∧ w'.ownsRow w1.heap.size 32 6 v' (k + 1) (rcells (noneL pf k ++ [denyR])) ∧ Below w1.heap.size W w' := by
        have hd : RulesRd W h 0 [denyR] := fun i r hr => by
          cases i with
          | zero => simp at hr; subst hr; exact ⟨hdW, by decide⟩
          | succ i => simp at hr
        rw [rcells_app]
        exact app_old elemRule hoW hbW.size ⟨h, 0, none⟩ 1 1 (rcells [denyR]) (by rw [rcells_length]; rfl) (fun j u hu => by rw [Addr.add_mid]; exact cells_of_rd [denyR] 0 hd j u hu) (rcells_one _) (by omega)
      obtain ⟨a5, c5, rfl, hri5⟩ := rules_own ho' (by simp [noneL_length]) (fun r hr => by
        rcases List.mem_append.1 hr with h | h
        · rw [(noneL_mem pf k r h).1]; omega
        · simp at h; subst h; decide)
      have b5 := hbW.trans hb'
      refine anyH_ord (L := fun k => k == 5 || k == 7) (by kernel_rfl) (fun c a a' w h => absurd rfl (h.1 c)) [5, 7, 8, 9, 10, 11, 12] _ _ _ (by kernel_rfl) hbW ?_
      refine ord_l (by rfl) (by rfl) (by rfl) ?_
      refine opwp_append _ _ _ _ _ (by rfl) (by rfl) hr ?_
      refine ⟨b5, ?_⟩
      refine ord_l (by rfl) (by rfl) (by rfl) ?_
      go_simp
      refine (apply_is w' (by omega) (by simp [noneL_length]) hri5 hA H2.out).mono ?_
      rintro e w6 ⟨rfl, hb6⟩
      have b6 : Below w1.heap.size w1 w6 := b5.trans (hb6.mono b5.size)
      refine ⟨b6, ?_⟩
      repeat refine ord_q (by rfl) (by rfl) (by rfl) (fun w9 h9 => (by go_simp; first | done | rfl)) (by go_simp; first | done | rfl) ?_
      refine ⟨fun _ h => (by cases h), ?_⟩
      obtain ⟨s0, s1⟩ := qd w6 b6
      have HB6 : Hid (Below w.heap.size w w6) := HB1.out.trans (b6.mono HB1.out.size)
      clear hr ho' hb' hri5 b5 hb6 b6 hoW hdW hbW qd q0 q1 hz HB1 HRI1
      have hz6 : w.heap.size < w6.heap.size := World.block_lt_of_cell? w6 _ s0
      by_cases he : A = 4278190080 ∧ L = 32
      · obtain ⟨rfl, rfl⟩ := he
        go_wp2_with fail
        refine (answers_any w6).mono ?_
        rintro e w7 ⟨rfl, hb7⟩
        have HB7 : Hid (Below w.heap.size w w7) := HB6.out.trans (hb7.mono HB6.out.size)
        clear hb7
        go_wp2
        go_ret
        exact ⟨rfl, HB7.out⟩
      · have HE := hide he
        clear he
        by_cases hAe : A = 4278190080
        · have hLe : ¬ L = 32 := fun h => HE.out ⟨hAe, h⟩
          subst hAe
          cases hrt : rightB 4278190080 L with
          | false =>
            have HRT := hide hrt
            clear hrt
            go_wp2_with fail
            refine (rright_is w6 HRT.out).mono ?_
            rintro e w7 ⟨rfl, hb7⟩
            have HB7 : Hid (Below w.heap.size w w7) := HB6.out.trans (hb7.mono HB6.out.size)
            clear hb7
            go_wp2_with fail
            refine (answers_any w7).mono ?_
            rintro e w8 ⟨rfl, hb8⟩
            have HB8 : Hid (Below w.heap.size w w8) := HB7.out.trans (hb8.mono HB7.out.size)
            clear hb8
            go_wp2
            go_ret
            exact ⟨rfl, HB8.out⟩
          | true =>
            have HRT := hide hrt
            have e1 := H1.out.symm.trans (apply_noneL HE.out pf k)
            have e2 := H2.out.symm.trans (apply_deny HE.out hrt hA pf k)
            injection e1 with e3 e4
            injection e2 with e5 e6
            subst e3 e4 e5 e6
            clear hrt
            go_wp2_with fail
            refine (rright_is w6 HRT.out).mono ?_
            rintro e w7 ⟨rfl, hb7⟩
            have HB7 : Hid (Below w.heap.size w w7) := HB6.out.trans (hb7.mono HB6.out.size)
            clear hb7
            go_wp2_with fail
            refine (answers_any w7).mono ?_
            rintro e w8 ⟨rfl, hb8⟩
            have HB8 : Hid (Below w.heap.size w w8) := HB7.out.trans (hb8.mono HB7.out.size)
            clear hb8
            go_wp2
            go_ret
            exact ⟨rfl, HB8.out⟩
        · have hAi : ¬ (A : Int) = 4278190080 := by omega
          clear hAe
          cases hrt : rightB A L with
          | false =>
            have HRT := hide hrt
            clear hrt
            go_wp2_with fail
            refine (rright_is w6 HRT.out).mono ?_
            rintro e w7 ⟨rfl, hb7⟩
            have HB7 : Hid (Below w.heap.size w w7) := HB6.out.trans (hb7.mono HB6.out.size)
            clear hb7
            go_wp2_with fail
            refine (answers_any w7).mono ?_
            rintro e w8 ⟨rfl, hb8⟩
            have HB8 : Hid (Below w.heap.size w w8) := HB7.out.trans (hb8.mono HB7.out.size)
            clear hb8
            go_wp2
            go_ret
            exact ⟨rfl, HB8.out⟩
          | true =>
            have HRT := hide hrt
            have e1 := H1.out.symm.trans (apply_noneL HE.out pf k)
            have e2 := H2.out.symm.trans (apply_deny HE.out hrt hA pf k)
            injection e1 with e3 e4
            injection e2 with e5 e6
            subst e3 e4 e5 e6
            clear hrt
            go_wp2_with fail
            refine (rright_is w6 HRT.out).mono ?_
            rintro e w7 ⟨rfl, hb7⟩
            have HB7 : Hid (Below w.heap.size w w7) := HB6.out.trans (hb7.mono HB6.out.size)
            clear hb7
            go_wp2_with fail
            refine (answers_any w7).mono ?_
            rintro e w8 ⟨rfl, hb8⟩
            have HB8 : Hid (Below w.heap.size w w8) := HB7.out.trans (hb8.mono HB7.out.size)
            clear hb8
            go_wp2
            go_ret
            exact ⟨rfl, HB8.out⟩
theorem policyNone_walk (A : Nat) (L q pf : Int) (w : World) (hA : A < 4294967296) (hq : 0 ≤ q) :
    Calls Try.prog 5 #[pfx A L, .int .u8 q, .int .i64 pf] w fun e w' => e = .returned (.bool true) ∧ Below w.heap.size w w' := by
  have h3 := Int.tmod_lt_of_pos q (show (0 : Int) < 16 by omega)
  have h4 := Int.tmod_nonneg 16 hq
  exact pnone_in A (q.tmod 16).toNat L q pf w hA (by omega) (by omega)
end Go.Proofs.Ytejbajjkbjaadaa
