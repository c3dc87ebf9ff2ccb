/- TriePlays' walk. -/
import Derived.Test.YtfecknbneonidaaTpM
import Derived.Test.YtfecknbneonidaaTpT
import Derived.Test.YtfecknbneonidaaTpS
import Derived.Test.YtfecknbneonidaaTpF
import Derived.Test.YtfecknbneonidaaTpP
import Derived.BigRegion
namespace Go.Proofs.Ytfecknbneonidaa
open Go.RowKit
set_option maxRecDepth 100000

set_option maxHeartbeats 40000000 in
theorem tplays_in (w : World) (aa ab : Option Addr) (ga oa ca gb ob cb : Nat) (acts : List ActRow) (addrs : List Nat) (n m : Nat) (hn : n = acts.length) (hm : m = addrs.length) (hn60 : n ≤ 60) (hm60 : m ≤ 60) (haa : 0 < n → aa = some ⟨ga, oa, none⟩) (hab : 0 < m → ab = some ⟨gb, ob, none⟩) (ha : ActsRd w ga oa acts) (hb : AddrsRd w gb ob addrs) :
    Calls Try.prog 3 #[.slice aa n ca, .slice ab m cb] w fun e w' => e = .returned (.bool true) ∧ Below w.heap.size w w' := by
  have HAc := hide ha
  have HAd := hide hb
  have HAa := hide haa
  have HAb := hide hab
  have HNn := hide hn
  have HMm := hide hm
  clear ha hb hn hm haa hab
  have n60 : (n : Int) ≤ 60 := by omega
  have m60 : (m : Int) ≤ 60 := by omega
  have dn : decide ((60 : Int) < (n : Int)) = false := decide_eq_false (by omega)
  have dm : decide ((60 : Int) < (m : Int)) = false := decide_eq_false (by omega)
  go_enter Try.func3, Try.ntmps3
  go_wp2_with fail
  refine (new_any _).mono ?_
  rintro e w1 ⟨rfl, rfl⟩
  have HT := hide (trie_new w 55)
  have HB1 : Hid (Below w.heap.size w (w.alloc (.cells #[.pointer none, .pointer none, .bool false, .int .i64 0] 55))) := (Below.refl _ _).alloc (Nat.le_refl _) _
  generalize w.alloc (.cells #[.pointer none, .pointer none, .bool false, .int .i64 0] 55) = w1 at *
  have HP1 : Hid (Play w.heap.size w1 [] (.slice none 0 0) (.slice none 0 0) w.heap.size (oneN w.heap.size) (fun _ _ => none)) := ⟨HT.out, own_nil _ _ _ _, own_nil _ _ _ _, List.Pairwise.nil, fun _ _ _ => ⟨fun h => (by cases h), fun h => (by cases h)⟩, fun b h => (by simp [Value.ownBlock] at h), fun b h => (by simp [Value.ownBlock] at h), fun b hb => by obtain ⟨x, y, h⟩ := hb; obtain ⟨_, _, rfl⟩ := oneN_some h; exact Nat.le_refl _⟩
  clear HT
  go_wp2
  go_loopw [6, 7, 8] (fun ls vs i wq => ∃ (k : Nat) (T : List ((Nat × Nat) × Int)) (N : Nat → Nat → Option Nat) (C : Nat → Nat → Option Int), k ≤ n ∧ i = .int .i64 k ∧ Hid (Play w.heap.size wq T ls vs w.heap.size N C) ∧ Hid (Below w.heap.size w wq) ∧ Hid (T.length ≤ k)) (fun _ _ i _ => n - (intOf i).toNat)
  case atStart => exact ⟨0, [], _, _, Nat.zero_le _, rfl, HP1, HB1, Nat.le_refl _⟩
  case round =>
    clear HP1 HB1
    obtain ⟨k, T, N, C, hk, rfl, HP, HB, HL⟩ := hrel
    obtain ⟨la, lc, rfl⟩ := slice_of HP.out.lo
    obtain ⟨va, vc, rfl⟩ := slice_of HP.out.vo
    by_cases hlt : k < n
    · obtain rfl : aa = some ⟨ga, oa, none⟩ := HAa.out (by omega)
      obtain ⟨⟨dr, A, L, V⟩, hact⟩ : ∃ t, acts[k]? = some t := ⟨acts[k]'(by have := HNn.out; omega), by simp [← HNn.out, hlt]⟩
      obtain ⟨q0, q1, q2, q3, hA⟩ := HAc.out k _ hact
      have hgz := World.block_lt_of_cell? w _ q0
      simp only at hgz q0 q1 q2 q3 hA
      rw [← HB.out.cell (p := ⟨ga, oa + k * 4, none⟩) hgz] at q0
      rw [← HB.out.cell (p := ⟨ga, oa + k * 4 + 1, none⟩) hgz] at q1
      rw [← HB.out.cell (p := ⟨ga, oa + k * 4 + 2, none⟩) hgz] at q2
      rw [← HB.out.cell (p := ⟨ga, oa + k * 4 + 3, none⟩) hgz] at q3
      have hki : (k : Int) < (n : Int) := by omega
      clear hact hgz
      have hT60 : T.length ≤ 60 := by have := HL.out; omega
      have HPb : Hid (Play w.heap.size (wr.alloc (.cells #[.bool dr, .int .u32 (A : Int), .int .i64 L, .int .i64 V] 33)) T (.slice la T.length lc) (.slice va T.length vc) w.heap.size N C) := HP.out.later ((Below.refl _ _).alloc (Nat.le_refl _) _)
      have HBb : Hid (Below w.heap.size w (wr.alloc (.cells #[.bool dr, .int .u32 (A : Int), .int .i64 L, .int .i64 V] 33))) := HB.out.alloc HB.out.size _
      have b0 : (wr.alloc (.cells #[.bool dr, .int .u32 (A : Int), .int .i64 L, .int .i64 V] 33)).cell? ⟨wr.heap.size, 0, none⟩ = some (.bool dr) := by simp [go_sem]
      have b1 : (wr.alloc (.cells #[.bool dr, .int .u32 (A : Int), .int .i64 L, .int .i64 V] 33)).cell? ⟨wr.heap.size, 1, none⟩ = some (.int .u32 (A : Int)) := by simp [go_sem]
      have b2 : (wr.alloc (.cells #[.bool dr, .int .u32 (A : Int), .int .i64 L, .int .i64 V] 33)).cell? ⟨wr.heap.size, 2, none⟩ = some (.int .i64 L) := by simp [go_sem]
      have b3 : (wr.alloc (.cells #[.bool dr, .int .u32 (A : Int), .int .i64 L, .int .i64 V] 33)).cell? ⟨wr.heap.size, 3, none⟩ = some (.int .i64 V) := by simp [go_sem]
      have hzb : wr.heap.size < (wr.alloc (.cells #[.bool dr, .int .u32 (A : Int), .int .i64 L, .int .i64 V] 33)).heap.size := by simp
      have HLo : Hid (w.heap.size ≤ wr.heap.size) := HB.out.size
      have HXl : Hid (¬ (Value.slice la T.length lc).ownBlock = some wr.heap.size ∧ ¬ (Value.slice va T.length vc).ownBlock = some wr.heap.size ∧ ¬ Blk N wr.heap.size) := ⟨fun h => by have := (own_lt HP.out.lo _ h).2; omega, fun h => by have := (own_lt HP.out.vo _ h).2; omega, fun h => by have := HP.out.tr.lt _ h; omega⟩
      go_wp2_with fail
      generalize (wr.alloc (.cells #[.bool dr, .int .u32 (A : Int), .int .i64 L, .int .i64 V] 33)) = wb at *
      generalize wr.heap.size = X at *
      clear HP HB q0 q1 q2 q3
      obtain ⟨tn, htn⟩ : ∃ tn, tn = T.length := ⟨_, rfl⟩
      have HTn := hide htn
      rw [← htn]
      rw [← htn] at hT60
      clear htn
      go_loopw [10, 11] (fun at_ i wq => ∃ j q : Nat, j ≤ tn ∧ at_ = .int .i64 (atUp T A L j) ∧ i = .int .i64 j ∧ wq = wb.drewN q) (fun _ i _ => tn - (intOf i).toNat)
      case atStart => exact ⟨0, 0, Nat.zero_le _, rfl, rfl, rfl⟩
      case round =>
        obtain ⟨j, q, hj, rfl, rfl, rfl⟩ := hrel
        by_cases hjt : j < tn
        · obtain ⟨⟨⟨Y, M⟩, Z⟩, hTj⟩ : ∃ t, T[j]? = some t := ⟨T[j]'(by have := HTn.out; omega), by simp [← HTn.out, hjt]⟩
          obtain ⟨g, c, hv, _, _⟩ := HPb.out.lo.form (by have := HTn.out; omega)
          obtain ⟨rfl, rfl⟩ : la = some ⟨g, 0, none⟩ ∧ lc = c := by cases hv; exact ⟨rfl, rfl⟩
          have y0 : wb.cell? ⟨g, j * 2, none⟩ = some (.int .u32 (Y : Int)) := by rw [HPb.out.lo.cellAt (j * 2) (by have := HTn.out; omega)]; exact (spcells_get _ j _ (getElem_key hTj).1).1
          have y1 : wb.cell? ⟨g, j * 2 + 1, none⟩ = some (.int .i64 (M : Int)) := by rw [HPb.out.lo.cellAt (j * 2 + 1) (by have := HTn.out; omega)]; exact (spcells_get _ j _ (getElem_key hTj).1).2
          clear hv
          have hji : (j : Int) < (tn : Int) := by omega
          have hj0 : (0 : Int) ≤ (j : Int) := by omega
          by_cases he : Y = A ∧ (M : Int) = L
          · obtain ⟨rfl, rfl⟩ := he
            have HU : Hid (atUp T Y (M : Int) (j + 1) = (j : Int)) := by
              show atUp T Y (M : Int) (j + 1) = (j : Int)
              unfold atUp
              rw [if_pos (by rw [hTj]; rfl)]
            clear hTj
            generalize atUp T Y (M : Int) j = u at *
            go_wp2_with fail
            go_quiet (fail)
            go_wp2
            exact ⟨⟨j + 1, q + nq, by omega, by rw [HU.out], by go_num, rfl⟩, by simp [intOf]; omega⟩
          · have HU : Hid (atUp T A L (j + 1) = atUp T A L j) := by
              show atUp T A L (j + 1) = _
              rw [atUp, if_neg (by rw [hTj]; simp only [Option.map_some, Option.some.injEq, Prod.mk.injEq]; exact he)]
            clear hTj
            by_cases hYA : Y = A
            · subst hYA
              have dML : ((M : Int) == L) = false := by simp; exact fun h => he ⟨rfl, h⟩
              clear he
              generalize atUp T Y L j = u at *
              go_wp2_with fail
              go_quiet (fail)
              go_wp2
              exact ⟨⟨j + 1, q + nq, by omega, by rw [HU.out], by go_num, rfl⟩, by simp [intOf]; omega⟩
            · have dYA : ((Y : Int) == (A : Int)) = false := by simp; omega
              clear he hYA
              generalize atUp T A L j = u at *
              go_wp2_with fail
              go_quiet (fail)
              go_wp2
              exact ⟨⟨j + 1, q + nq, by omega, by rw [HU.out], by go_num, rfl⟩, by simp [intOf]; omega⟩
        · obtain rfl : j = tn := by omega
          have HPq : Hid (Play w.heap.size (wb.drewN q) T (.slice la j lc) (.slice va j vc) w.heap.size N C) := by
            have := HPb.out.later (w' := wb.drewN q) ⟨rfl, rfl, rfl, Nat.le_refl _, fun _ _ => rfl⟩
            rw [← HTn.out] at this
            exact this
          have HBq : Hid (Below w.heap.size w (wb.drewN q)) := below_drewN HBb.out q
          have e0 : (wb.drewN q).cell? ⟨X, 0, none⟩ = some (.bool dr) := b0
          have e1 : (wb.drewN q).cell? ⟨X, 1, none⟩ = some (.int .u32 (A : Int)) := b1
          have e2 : (wb.drewN q).cell? ⟨X, 2, none⟩ = some (.int .i64 L) := b2
          have e3 : (wb.drewN q).cell? ⟨X, 3, none⟩ = some (.int .i64 V) := b3
          have hze : X < (wb.drewN q).heap.size := hzb
          have dj : decide ((j : Int) < (j : Int)) = false := decide_eq_false (by omega)
          clear b0 b1 b2 b3 hzb HPb HBb hjt hj
          go_wp2_with fail
          generalize wb.drewN q = we at *
          rcases HPq.out.at_ A L with ⟨ha, hh⟩ | ⟨i, nn, v, hi, ha, rfl, hTi, hkey, hCv, hh⟩
          · rw [← HTn.out] at ha
            rw [ha]
            have hg := get_any A L w.heap.size we N C hA HPq.out.tr
            rw [hh] at hg
            unfold pfx at hg
            have HG := hide hg
            have HH := hide hh
            clear ha hg hh
            refine HG.out.mono ?_
            rintro e wg ⟨rfl, hbg⟩
            have HPg : Hid (Play w.heap.size wg T (.slice la j lc) (.slice va j vc) w.heap.size N C) := HPq.out.later hbg
            have HBg : Hid (Below w.heap.size w wg) := HBq.out.trans (hbg.mono HBq.out.size)
            rw [← hbg.cell (p := ⟨X, 0, none⟩) hze] at e0
            rw [← hbg.cell (p := ⟨X, 1, none⟩) hze] at e1
            rw [← hbg.cell (p := ⟨X, 2, none⟩) hze] at e2
            rw [← hbg.cell (p := ⟨X, 3, none⟩) hze] at e3
            have hzg : X < wg.heap.size := Nat.lt_of_lt_of_le hze hbg.size
            clear hbg hze HPq HBq HG
            cases dr with
            | true =>
              have hd := drop_any A w.heap.size L wg N C hA HPg.out.tr
              rw [HH.out, dropC_none HH.out] at hd
              unfold pfx at hd
              have HD := hide hd
              clear hd
              go_wp2_with fail
              refine HD.out.mono ?_
              rintro e wd ⟨rfl, N2, ht2, hk2, hs2⟩
              have HP2 : Hid (Play w.heap.size wd T (.slice la j lc) (.slice va j vc) w.heap.size N2 C) := HPg.out.trie ht2 hk2 (fun b hb => .inl (hs2 b hb)) HBg.out.size
              have HB2 : Hid (Below w.heap.size w wd) := HBg.out.trans (hk2.below _ HBg.out.size HPg.out.nb)
              clear ht2 hk2 hs2
              go_wp2
              exact ⟨⟨k + 1, T, N2, C, by omega, by go_num, HP2, HB2, Nat.le_succ_of_le HL.out⟩, by simp [intOf]; omega⟩
            | false =>
              have hst := fun w1 (h1 : TrieIs w1 w.heap.size N C) => set_any A w.heap.size L V w1 N C hA h1
              have hrt := fun w1 => right_any A L w1
              unfold pfx at hst hrt
              have HSt := hide hst
              have HRt := hide hrt
              clear hst hrt
              go_wp2_with fail
              refine region_ord (fun w' => w'.cell? ⟨X, 1, none⟩ = some (.int .u32 (A : Int)) ∧ w'.cell? ⟨X, 2, none⟩ = some (.int .i64 L) ∧ w'.cell? ⟨X, 3, none⟩ = some (.int .i64 V)) (fun k => k == 5 || k == 8) [0, 1, 2, 3, 4, 6, 7, 5, 8, 9] (by kernel_rfl) (by kernel_rfl) (by rfl) (by kernel_rfl) ⟨e1, e2, e3⟩ ?_
              repeat refine ord_q (by rfl) (by rfl) (by rfl) (fun w9 h9 => (by obtain ⟨s1, s2, s3⟩ := h9; go_simp; first | done | rfl)) (by go_simp; first | done | rfl) ?_
              have hcl : ∀ w', Keeps (Blk N) wg.drew w' → w'.cell? ⟨X, 1, none⟩ = some (.int .u32 (A : Int)) ∧ w'.cell? ⟨X, 2, none⟩ = some (.int .i64 L) ∧ w'.cell? ⟨X, 3, none⟩ = some (.int .i64 V) := fun w' hk => by
                rw [hk.cell ⟨X, 1, none⟩ hzg HXl.out.2.2, hk.cell ⟨X, 2, none⟩ hzg HXl.out.2.2, hk.cell ⟨X, 3, none⟩ hzg HXl.out.2.2]
                exact ⟨e1, e2, e3⟩
              refine ord_l (by rfl) (by rfl) (by rfl) ?_
              go_simp
              refine (HSt.out wg.drew (HPg.out.tr.of_blocks fun _ _ => rfl)).mono ?_
              rintro e w2 ⟨rfl, N2, ht2, hk2, hs2⟩
              refine ⟨hcl w2 hk2, ?_⟩
              refine ord_l (by rfl) (by rfl) (by rfl) ?_
              go_simp
              refine (HRt.out w2).mono ?_
              rintro e ws ⟨rfl, hb3⟩
              have hk3 : Keeps (Blk N) wg ws := ((Keeps.refl (Blk N) wg).drew.trans hk2 fun _ _ h => h).trans (Keeps.of_below hb3 (Blk N)) fun _ _ h => h
              have hcs := hcl ws (hk2.trans (Keeps.of_below hb3 (Blk N)) fun _ _ h => h)
              have HTs : Hid (TrieIs ws w.heap.size N2 (if rightB A L then upd C A L.toNat (some V) else C)) := ht2.later hb3
              have HKs := hide hk3
              have HSs : Hid (∀ b, Blk N2 b → Blk N b ∨ wg.heap.size ≤ b) := hs2
              obtain ⟨g1, g2, g3⟩ := hcs
              have hzs : X < ws.heap.size := Nat.lt_of_lt_of_le hzg hk3.size
              have HBs : Hid (Below w.heap.size w ws) := HBg.out.trans (hk3.below _ HBg.out.size HPg.out.nb)
              clear ht2 hk2 hs2 hb3 hk3 hcl
              refine ⟨⟨g1, g2, g3⟩, ?_⟩
              repeat refine ord_q (by rfl) (by rfl) (by rfl) (fun w9 h9 => (by obtain ⟨s1, s2, s3⟩ := h9; go_simp; first | done | rfl)) (by go_simp; first | done | rfl) ?_
              refine ⟨fun _ h => (by cases h), ?_⟩
              clear e0 e1 e2 e3
              cases hr : rightB A L with
              | false =>
                have hC : (if rightB A L = true then upd C A L.toNat (some V) else C) = C := by rw [hr]; rfl
                have HR2 := hide hr
                have HP2 : Hid (Play w.heap.size ws T (.slice la j lc) (.slice va j vc) w.heap.size N2 C) := HPg.out.trie (by have := HTs.out; rw [hC] at this; exact this) HKs.out HSs.out HBg.out.size
                clear hr hC
                go_wp2_with fail
                refine (HRt.out ws).mono ?_
                rintro e wz ⟨rfl, hbz⟩
                rw [HR2.out]
                have HP3 : Hid (Play w.heap.size wz T (.slice la j lc) (.slice va j vc) w.heap.size N2 C) := HP2.out.later hbz
                have HB3 : Hid (Below w.heap.size w wz) := HBs.out.trans (hbz.mono HBs.out.size)
                clear hbz
                go_wp2
                exact ⟨⟨k + 1, T, N2, C, by omega, by go_num, HP3, HB3, Nat.le_succ_of_le HL.out⟩, by simp [intOf]; omega⟩
              | true =>
                obtain ⟨nn, rfl, hn32, hcut⟩ := rightB_len hr
                have hno : C A nn = none := by have := HH.out; unfold hasC at this; rw [if_pos hr, Int.toNat_natCast] at this; exact this
                have HNo := hide hno
                have HR2 := hide hr
                have HTs2 : Hid (TrieIs ws w.heap.size N2 (upd C A nn (some V))) := by have := HTs.out; rw [if_pos hr, Int.toNat_natCast] at this; exact this
                obtain ⟨rw1, rw2, rw3, rw4, rw5⟩ := HPg.out.rows HKs.out HSs.out HBg.out.size
                have HR1 := hide rw1
                have HRv := hide rw2
                have HNl := hide rw3
                have HNv := hide rw4
                have HNb := hide rw5
                clear hr hno HTs rw1 rw2 rw3 rw4 rw5
                go_wp2_with fail
                refine (HRt.out ws).mono ?_
                rintro e wz ⟨rfl, hbz⟩
                rw [HR2.out]
                rw [← hbz.cell (p := ⟨X, 1, none⟩) hzs] at g1
                rw [← hbz.cell (p := ⟨X, 2, none⟩) hzs] at g2
                rw [← hbz.cell (p := ⟨X, 3, none⟩) hzs] at g3
                have hzz : X < wz.heap.size := Nat.lt_of_lt_of_le hzs hbz.size
                have HTz : Hid (TrieIs wz w.heap.size N2 (upd C A nn (some V))) := HTs2.out.later hbz
                have HBz : Hid (Below w.heap.size w wz) := HBs.out.trans (hbz.mono HBs.out.size)
                have HLz := hide (own_later HR1.out hbz)
                have HVz := hide (own_later HRv.out hbz)
                clear hbz HTs2 HR1 HRv HBs
                have HXf : Hid (¬ ((Value.slice la j lc).ownBlock = some X ∨ (Value.slice va j vc).ownBlock = some X)) := fun h => by
                  have hx := HXl.out
                  rw [← HTn.out] at hx
                  rcases h with h | h
                  · exact hx.1 h
                  · exact hx.2.1 h
                go_wp2_with fail
                refine region_pre2 (fun W => Keeps (fun b => (Value.slice la j lc).ownBlock = some b ∨ (Value.slice va j vc).ownBlock = some b) wz W) [0, 1, 2, 5, 6, 7] 6 (lstM 0 0) (by kernel_rfl) (by kernel_rfl) (by rfl) (by kernel_rfl) (by kernel_rfl) ((Keeps.refl _ wz).drew) ?_
                repeat refine pre_q (by rfl) (by rfl) (fun w9 h9 => (by have s1 := (h9.cell ⟨X, 1, none⟩ hzz HXf.out).trans g1; have s2 := (h9.cell ⟨X, 2, none⟩ hzz HXf.out).trans g2; have s3 := (h9.cell ⟨X, 3, none⟩ hzz HXf.out).trans g3; clear h9; go_simp; first | done | rfl)) (by go_simp; first | done | rfl) ?_
                show wpAnyH _ _ _ _ _ _ _ _ _
                refine more_rows _ wz (by rfl) ⟨_, _, rfl⟩ ⟨_, _, rfl⟩ ⟨_, _, rfl⟩ ⟨_, _, rfl⟩ ⟨_, _, _, rfl⟩ ⟨_, _, _, rfl⟩ (by kernel_rfl) (by kernel_rfl) (by kernel_rfl) (by kernel_rfl) w.heap.size j A (nn : Int) V _ _ (pcells (T.map Prod.fst)) (vcells (T.map Prod.snd)) (by omega) (by rfl) (by rfl) (by rfl) (by rfl) (by have := HLz.out; rw [← HTn.out] at this; exact this) (by have := HVz.out; rw [← HTn.out] at this; exact this) HBz.out.size ?_ wz.drew ⟨rfl, rfl, rfl, Nat.le_refl _, fun _ _ => rfl⟩
                intro W u1 u2 x139 x140 x144 x145 ho1 ho2 hk hw1 hw2
                refine ⟨fun _ h => (by cases h), ?_⟩
                obtain ⟨la1, lc1, rfl⟩ := slice_of ho1
                obtain ⟨va1, vc1, rfl⟩ := slice_of ho2
                have HBW : Hid (Below w.heap.size w W) := HBz.out.trans (hk.below _ HBz.out.size fun b hb => by
                  rcases hb with h | h
                  · exact (own_lt HLz.out b h).1
                  · exact (own_lt HVz.out b h).1)
                have HNlk : Hid (∀ b, Blk N2 b → ¬ ((Value.slice la j lc).ownBlock = some b ∨ (Value.slice va j vc).ownBlock = some b)) := fun b hb h => by
                  rcases h with h | h
                  · exact HNl.out b h hb
                  · exact HNv.out b h hb
                have HTW : Hid (TrieIs W w.heap.size N2 (upd C A nn (some V))) := HTz.out.keeps hk HNlk.out
                have HNW : Hid ((∀ b, (Value.slice la1 (j + 1) lc1).ownBlock = some b → ¬ Blk N2 b) ∧ ∀ b, (Value.slice va1 (j + 1) vc1).ownBlock = some b → ¬ Blk N2 b) := ⟨fun b hb h => by
                    rcases hw1 b hb with h9 | h9
                    · exact HNl.out b h9 h
                    · have := HTz.out.lt b h; omega, fun b hb h => by
                    rcases hw2 b hb with h9 | h9
                    · exact HNv.out b h9 h
                    · have := HTz.out.lt b h; omega⟩
                have HO1 : Hid (W.ownsRow w.heap.size 31 2 (.slice la1 (j + 1) lc1) (j + 1) (pcells (rowAt Prod.fst T (A, nn) j))) := by
                  show W.ownsRow _ _ _ _ _ _
                  rw [rowAt, HTn.out, List.take_length, List.drop_length, List.map_nil, pcells_snoc, ← HTn.out]
                  exact ho1
                have HO2 : Hid (W.ownsRow w.heap.size 3 1 (.slice va1 (j + 1) vc1) (j + 1) (vcells (rowAt Prod.snd T V j))) := by
                  show W.ownsRow _ _ _ _ _ _
                  rw [rowAt, HTn.out, List.take_length, List.drop_length, List.map_nil, vcells_app, ← HTn.out]
                  exact ho2
                have HDr : Hid (∀ t ∈ T.drop j, lessP (A, nn) t.1) := fun t ht => by rw [HTn.out, List.drop_length] at ht; cases ht
                have HUp := hide HPg.out.up
                have HHas := hide HPg.out.has
                clear ho1 ho2 hk hw1 hw2 g1 g2 g3 HTz HBz HLz HVz HXf HNlk HPg HBg HKs HSs HSt HRt hzz hzs
                have hj60 : (j : Int) ≤ 60 := by omega
                have hs1 : IntKind.i64.wrap (((j + 1 : Nat) : Int) - 1) = (j : Int) := by rw [IntKind.wrap_i64]; omega
                go_wp2
                go_loopw [14] (fun kk wq => ∃ p : Nat, p ≤ j ∧ kk = .int .i64 p ∧ Hid (wq.ownsRow w.heap.size 31 2 (.slice la1 (j + 1) lc1) (j + 1) (pcells (rowAt Prod.fst T (A, nn) p))) ∧ Hid (wq.ownsRow w.heap.size 3 1 (.slice va1 (j + 1) vc1) (j + 1) (vcells (rowAt Prod.snd T V p))) ∧ Hid (∀ t ∈ T.drop p, lessP (A, nn) t.1) ∧ Hid (TrieIs wq w.heap.size N2 (upd C A nn (some V))) ∧ Hid (Below w.heap.size w wq)) (fun kk _ => (intOf kk).toNat)
                case atStart => exact ⟨j, Nat.le_refl _, rfl, HO1, HO2, HDr, HTW, HBW⟩
                case round =>
                  clear HO1 HO2 HDr HTW HBW
                  obtain ⟨p, hp, rfl, HO1, HO2, HD, HTi, HBi⟩ := hrel
                  obtain ⟨g, c, hv, _, _⟩ := HO1.out.form (by omega)
                  obtain ⟨rfl, rfl⟩ : la1 = some ⟨g, 0, none⟩ ∧ lc1 = c := by cases hv; exact ⟨rfl, rfl⟩
                  obtain ⟨gv, c9, hv9, _, _⟩ := HO2.out.form (by omega)
                  obtain ⟨rfl, rfl⟩ : va1 = some ⟨gv, 0, none⟩ ∧ vc1 = c9 := by cases hv9; exact ⟨rfl, rfl⟩
                  clear hv hv9
                  by_cases hp0 : p = 0
                  · subst hp0
                    have HE : Hid (Below w.heap.size w wr.drew) := HBi.out.drew
                    have HPf : Hid (Play w.heap.size wr.drew (T.take 0 ++ ((A, nn), V) :: T.drop 0) (.slice (some ⟨g, 0, none⟩) (j + 1) lc1) (.slice (some ⟨gv, 0, none⟩) (j + 1) vc1) w.heap.size N2 (upd C A nn (some V))) := by
                      have hpl : (T.take 0 ++ ((A, nn), V) :: T.drop 0).length = j + 1 := by have h9 := HTn.out; rw [h9]; simp <;> omega
                      have m1 : (T.take 0 ++ ((A, nn), V) :: T.drop 0).map Prod.fst = rowAt Prod.fst T (A, nn) 0 := by simp [rowAt]
                      have m2 : (T.take 0 ++ ((A, nn), V) :: T.drop 0).map Prod.snd = rowAt Prod.snd T V 0 := by simp [rowAt]
                      have hm := play_more HUp.out HHas.out (z := V) HNo.out (fun t ht => (by rw [List.take_zero] at ht; cases ht)) HD.out
                      exact ⟨HTi.out.of_blocks fun _ _ => rfl, by rw [hpl, m1]; exact own_keep HO1.out (Keeps.refl (fun _ => False) wr).drew (fun _ _ h => h), by rw [hpl, m2]; exact own_keep HO2.out (Keeps.refl (fun _ => False) wr).drew (fun _ _ h => h), hm.1, hm.2, HNW.out.1, HNW.out.2, HNb.out⟩
                    have HLf : Hid ((T.take 0 ++ ((A, nn), V) :: T.drop 0).length ≤ k + 1) := by
                      show (T.take 0 ++ ((A, nn), V) :: T.drop 0).length ≤ k + 1
                      have := HL.out
                      simp
                      omega
                    go_wp2_with fail
                    refine region_mix (fun _ => True) (fun k => k == 12) (by kernel_rfl) (by kernel_rfl) (by kernel_rfl) trivial ?_
                    repeat (first | refine mix_q (by rfl) (by rfl) (fun w9 h9 => (by go_simp; first | done | rfl)) (by go_simp; first | done | rfl) ?_ | refine mix_s (by rfl) (by rfl) (by go_simp; first | done | rfl) ?_)
                    refine mix_ls (by rfl) (by rfl) (by rfl) (by go_simp; first | done | rfl) trivial ?_
                    repeat (first | refine mix_q (by rfl) (by rfl) (fun w9 h9 => (by go_simp; first | done | rfl)) (by go_simp; first | done | rfl) ?_ | refine mix_s (by rfl) (by rfl) (by go_simp; first | done | rfl) ?_)
                    refine ⟨fun _ h => (by cases h), ?_⟩
                    go_wp2
                    exact ⟨⟨k + 1, _, N2, _, by omega, by go_num, HPf, HE, HLf⟩, by simp [intOf]; omega⟩
                  · obtain ⟨r, rfl⟩ : ∃ r, p = r + 1 := ⟨p - 1, by omega⟩
                    obtain ⟨⟨⟨Y, M⟩, Z⟩, hTr⟩ : ∃ t, T[r]? = some t := ⟨T[r]'(by have := HTn.out; omega), by simp⟩
                    have rl := rowAt_here Prod.fst T (A, nn) (r + 1) (by have := HTn.out; omega)
                    have ra := rowAt_ahead Prod.fst T (A, nn) r _ hTr
                    have x0 : wr.cell? ⟨g, (r + 1) * 2, none⟩ = some (.int .u32 (A : Int)) := by rw [HO1.out.cellAt ((r + 1) * 2) (by omega)]; exact (spcells_get _ (r + 1) _ rl).1
                    have x1 : wr.cell? ⟨g, (r + 1) * 2 + 1, none⟩ = some (.int .i64 (nn : Int)) := by rw [HO1.out.cellAt ((r + 1) * 2 + 1) (by omega)]; exact (spcells_get _ (r + 1) _ rl).2
                    have u0 : wr.cell? ⟨g, r * 2, none⟩ = some (.int .u32 (Y : Int)) := by rw [HO1.out.cellAt (r * 2) (by omega)]; exact (spcells_get _ r _ ra).1
                    have u1 : wr.cell? ⟨g, r * 2 + 1, none⟩ = some (.int .i64 (M : Int)) := by rw [HO1.out.cellAt (r * 2 + 1) (by omega)]; exact (spcells_get _ r _ ra).2
                    have hgz : g < wr.heap.size := World.block_lt_of_cell? wr _ x0
                    have hl := fun w1 => less_any A Y (nn : Int) (M : Int) w1
                    unfold pfx at hl
                    have HLs := hide hl
                    clear hl rl ra
                    have hri : (r : Int) < ((j + 1 : Nat) : Int) := by omega
                    have hri2 : (r : Int) + 1 < ((j + 1 : Nat) : Int) := by omega
                    have hri3 : (r : Int) < (j : Int) + 1 := by omega
                    have hri4 : (r : Int) + 1 < (j : Int) + 1 := by omega
                    have hr60 : (r : Int) < 60 := by omega
                    have hw1 : IntKind.i64.wrap ((r : Int) + 1 - 1) = (r : Int) := by rw [IntKind.wrap_i64]; omega
                    have hw2 : IntKind.i64.wrap (r : Int) = (r : Int) := by rw [IntKind.wrap_i64]; omega
                    go_wp2_with fail
                    refine region_mix (fun w' => w'.cell? ⟨g, (r + 1) * 2, none⟩ = some (.int .u32 (A : Int)) ∧ w'.cell? ⟨g, (r + 1) * 2 + 1, none⟩ = some (.int .i64 (nn : Int)) ∧ w'.cell? ⟨g, r * 2, none⟩ = some (.int .u32 (Y : Int)) ∧ w'.cell? ⟨g, r * 2 + 1, none⟩ = some (.int .i64 (M : Int))) (fun k => k == 12) (by kernel_rfl) (by kernel_rfl) (by kernel_rfl) ⟨x0, x1, u0, u1⟩ ?_
                    repeat (first | refine mix_q (by rfl) (by rfl) (fun w9 h9 => (by obtain ⟨s0, s1, s2, s3⟩ := h9; go_simp; first | done | rfl)) (by go_simp; first | done | rfl) ?_ | refine mix_s (by rfl) (by rfl) (by go_simp; first | done | rfl) ?_)
                    refine mix_l (by rfl) (by rfl) (by rfl) ?_
                    go_simp
                    refine (HLs.out wr.drew).mono ?_
                    rintro e w2 ⟨rfl, hb2⟩
                    have y0 : w2.cell? ⟨g, (r + 1) * 2, none⟩ = some (.int .u32 (A : Int)) := by rw [hb2.cell (p := ⟨g, (r + 1) * 2, none⟩) (by exact hgz)]; exact x0
                    have y1 : w2.cell? ⟨g, (r + 1) * 2 + 1, none⟩ = some (.int .i64 (nn : Int)) := by rw [hb2.cell (p := ⟨g, (r + 1) * 2 + 1, none⟩) (by exact hgz)]; exact x1
                    have z0 : w2.cell? ⟨g, r * 2, none⟩ = some (.int .u32 (Y : Int)) := by rw [hb2.cell (p := ⟨g, r * 2, none⟩) (by exact hgz)]; exact u0
                    have z1 : w2.cell? ⟨g, r * 2 + 1, none⟩ = some (.int .i64 (M : Int)) := by rw [hb2.cell (p := ⟨g, r * 2 + 1, none⟩) (by exact hgz)]; exact u1
                    have hbw : Below wr.heap.size wr w2 := ⟨hb2.os, hb2.tape, hb2.output, hb2.size, hb2.block⟩
                    have HO3 := hide (own_later HO1.out hbw)
                    have HO4 := hide (own_later HO2.out hbw)
                    have HT3 : Hid (TrieIs w2 w.heap.size N2 (upd C A nn (some V))) := HTi.out.later hbw
                    have HB3 : Hid (Below w.heap.size w w2) := HBi.out.trans (hbw.mono HBi.out.size)
                    have hgz2 : g < w2.heap.size := Nat.lt_of_lt_of_le hgz hbw.size
                    clear hb2 hbw x0 x1 u0 u1 HO1 HO2 HTi HBi
                    refine ⟨⟨y0, y1, z0, z1⟩, ?_⟩
                    repeat (first | refine mix_q (by rfl) (by rfl) (fun w9 h9 => (by obtain ⟨s0, s1, s2, s3⟩ := h9; go_simp; first | done | rfl)) (by go_simp; first | done | rfl) ?_ | refine mix_s (by rfl) (by rfl) (by go_simp; first | done | rfl) ?_)
                    refine ⟨fun _ h => (by cases h), ?_⟩
                    cases hls : lessB A (nn : Int) Y (M : Int) with
                    | false =>
                      have hah : ∀ t ∈ T.take (r + 1), lessP t.1 (A, nn) := by
                        refine play_ahead HUp.out hTr ?_
                        have h1 := of_decide_eq_false hls
                        rcases lessP_or (p := (Y, M)) (q := (A, nn)) with h | h | h
                        · exact h
                        · exfalso
                          have h2 := (HHas.out Y M Z).2 (List.mem_of_getElem? hTr)
                          cases h
                          rw [HNo.out] at h2
                          cases h2
                        · exfalso
                          unfold lessP at h
                          simp only at h
                          omega
                      have HPf : Hid (Play w.heap.size w2 (T.take (r + 1) ++ ((A, nn), V) :: T.drop (r + 1)) (.slice (some ⟨g, 0, none⟩) (j + 1) lc1) (.slice (some ⟨gv, 0, none⟩) (j + 1) vc1) w.heap.size N2 (upd C A nn (some V))) := by
                        have hpl : (T.take (r + 1) ++ ((A, nn), V) :: T.drop (r + 1)).length = j + 1 := by have h9 := HTn.out; rw [h9]; simp <;> omega
                        have m1 : (T.take (r + 1) ++ ((A, nn), V) :: T.drop (r + 1)).map Prod.fst = rowAt Prod.fst T (A, nn) (r + 1) := by simp [rowAt]
                        have m2 : (T.take (r + 1) ++ ((A, nn), V) :: T.drop (r + 1)).map Prod.snd = rowAt Prod.snd T V (r + 1) := by simp [rowAt]
                        have hm := play_more HUp.out HHas.out (z := V) HNo.out hah HD.out
                        exact ⟨HT3.out, by rw [hpl, m1]; exact HO3.out, by rw [hpl, m2]; exact HO4.out, hm.1, hm.2, HNW.out.1, HNW.out.2, HNb.out⟩
                      have HLf : Hid ((T.take (r + 1) ++ ((A, nn), V) :: T.drop (r + 1)).length ≤ k + 1) := by
                        show (T.take (r + 1) ++ ((A, nn), V) :: T.drop (r + 1)).length ≤ k + 1
                        have := HL.out
                        simp
                        omega
                      clear hah hls hTr
                      go_wp2
                      exact ⟨⟨k + 1, _, N2, _, by omega, by go_num, HPf, HB3, HLf⟩, by simp [intOf]; omega⟩
                    | true =>
                      have rv := rowAt_here Prod.snd T V (r + 1) (by have := HTn.out; omega)
                      have rv2 := rowAt_ahead Prod.snd T V r _ hTr
                      have v0 : w2.cell? ⟨gv, r + 1, none⟩ = some (.int .i64 V) := by rw [HO4.out.cellAt (r + 1) (by omega)]; exact vcells_get rv
                      have v1 : w2.cell? ⟨gv, r, none⟩ = some (.int .i64 Z) := by rw [HO4.out.cellAt r (by omega)]; exact vcells_get rv2
                      have f0 := HO3.out.frozenAt ((r + 1) * 2)
                      have f1 := HO3.out.frozenAt ((r + 1) * 2 + 1)
                      have f2 := HO3.out.frozenAt (r * 2)
                      have f3 := HO3.out.frozenAt (r * 2 + 1)
                      have HD2 : Hid (∀ t ∈ T.drop r, lessP (A, nn) t.1) := fun t ht => by
                        rw [List.drop_eq_getElem_cons (by have := HTn.out; omega)] at ht
                        rcases List.mem_cons.1 ht with h | h
                        · have h2 := (List.getElem?_eq_some_iff.1 hTr).2
                          rw [h2] at h
                          subst h
                          have h3 := of_decide_eq_true hls
                          unfold lessP
                          simp only
                          omega
                        · exact HD.out t h
                      have HS1 := hide (own_swapP HO3.out (r + 1) r Y M A nn)
                      rw [rowAt_swap Prod.fst T (A, nn) r _ hTr] at HS1
                      clear hls rv rv2
                      go_wp2_with fail
                      go_region
                      have hkS : Keeps (fun b => b = g) w2 ((((w2.setCell ⟨g, (r + 1) * 2, none⟩ (.int .u32 (Y : Int))).setCell ⟨g, (r + 1) * 2 + 1, none⟩ (.int .i64 (M : Int))).setCell ⟨g, r * 2, none⟩ (.int .u32 (A : Int))).setCell ⟨g, r * 2 + 1, none⟩ (.int .i64 (nn : Int))) := ((((Keeps.refl (fun b => b = g) w2).setCell _ _ _ (.inl rfl)).setCell _ _ _ (.inl rfl)).setCell _ _ _ (.inl rfl)).setCell _ _ _ (.inl rfl)
                      have hgv : ∀ b, (Value.slice (some ⟨gv, 0, none⟩) (j + 1) vc1).ownBlock = some b → ¬ b = g := fun b hb e => by
                        subst e
                        exact rows_apart HO3.out HO4.out (by decide) b rfl hb
                      have hgv2 : gv ≠ g := hgv gv rfl
                      have HO6 := hide (own_keep HO4.out hkS hgv)
                      have HT6 : Hid (TrieIs ((((w2.setCell ⟨g, (r + 1) * 2, none⟩ (.int .u32 (Y : Int))).setCell ⟨g, (r + 1) * 2 + 1, none⟩ (.int .i64 (M : Int))).setCell ⟨g, r * 2, none⟩ (.int .u32 (A : Int))).setCell ⟨g, r * 2 + 1, none⟩ (.int .i64 (nn : Int))) w.heap.size N2 (upd C A nn (some V))) := HT3.out.keeps hkS fun b hb e => by subst e; exact HNW.out.1 b rfl hb
                      have HB6 : Hid (Below w.heap.size w ((((w2.setCell ⟨g, (r + 1) * 2, none⟩ (.int .u32 (Y : Int))).setCell ⟨g, (r + 1) * 2 + 1, none⟩ (.int .i64 (M : Int))).setCell ⟨g, r * 2, none⟩ (.int .u32 (A : Int))).setCell ⟨g, r * 2 + 1, none⟩ (.int .i64 (nn : Int)))) := HB3.out.trans (hkS.below _ HB3.out.size fun b e => by subst e; exact (own_lt HO3.out b rfl).1)
                      have hgvz : gv < w2.heap.size := (own_lt HO4.out gv rfl).2
                      have v2 : ((((w2.setCell ⟨g, (r + 1) * 2, none⟩ (.int .u32 (Y : Int))).setCell ⟨g, (r + 1) * 2 + 1, none⟩ (.int .i64 (M : Int))).setCell ⟨g, r * 2, none⟩ (.int .u32 (A : Int))).setCell ⟨g, r * 2 + 1, none⟩ (.int .i64 (nn : Int))).cell? ⟨gv, r + 1, none⟩ = some (.int .i64 V) := by rw [hkS.cell ⟨gv, r + 1, none⟩ hgvz hgv2]; exact v0
                      have v3 : ((((w2.setCell ⟨g, (r + 1) * 2, none⟩ (.int .u32 (Y : Int))).setCell ⟨g, (r + 1) * 2 + 1, none⟩ (.int .i64 (M : Int))).setCell ⟨g, r * 2, none⟩ (.int .u32 (A : Int))).setCell ⟨g, r * 2 + 1, none⟩ (.int .i64 (nn : Int))).cell? ⟨gv, r, none⟩ = some (.int .i64 Z) := by rw [hkS.cell ⟨gv, r, none⟩ hgvz hgv2]; exact v1
                      have hgvz4 : gv < ((((w2.setCell ⟨g, (r + 1) * 2, none⟩ (.int .u32 (Y : Int))).setCell ⟨g, (r + 1) * 2 + 1, none⟩ (.int .i64 (M : Int))).setCell ⟨g, r * 2, none⟩ (.int .u32 (A : Int))).setCell ⟨g, r * 2 + 1, none⟩ (.int .i64 (nn : Int))).heap.size := Nat.lt_of_lt_of_le hgvz hkS.size
                      clear hkS hgv hgv2 v0 v1 y0 y1 z0 z1 f0 f1 f2 f3 hgvz HO3 HO4 HT3 HB3 HLs
                      generalize ((((w2.setCell ⟨g, (r + 1) * 2, none⟩ (.int .u32 (Y : Int))).setCell ⟨g, (r + 1) * 2 + 1, none⟩ (.int .i64 (M : Int))).setCell ⟨g, r * 2, none⟩ (.int .u32 (A : Int))).setCell ⟨g, r * 2 + 1, none⟩ (.int .i64 (nn : Int))) = w4 at *
                      have HS5 : Hid (w4.drew.ownsRow w.heap.size 31 2 (.slice (some ⟨g, 0, none⟩) (j + 1) lc1) (j + 1) (pcells (rowAt Prod.fst T (A, nn) r))) := HS1.out.drew
                      have HO7 : Hid (w4.drew.ownsRow w.heap.size 3 1 (.slice (some ⟨gv, 0, none⟩) (j + 1) vc1) (j + 1) (vcells (rowAt Prod.snd T V (r + 1)))) := HO6.out.drew
                      have HT7 : Hid (TrieIs w4.drew w.heap.size N2 (upd C A nn (some V))) := HT6.out.of_blocks fun _ _ => rfl
                      have HB7 : Hid (Below w.heap.size w w4.drew) := HB6.out.drew
                      have v4 : w4.drew.cell? ⟨gv, r + 1, none⟩ = some (.int .i64 V) := v2
                      have v5 : w4.drew.cell? ⟨gv, r, none⟩ = some (.int .i64 Z) := v3
                      have hgvz5 : gv < w4.drew.heap.size := hgvz4
                      clear HS1 HO6 HT6 HB6 v2 v3 hgvz4
                      go_wp2_with fail
                      generalize w4.drew = w5 at *
                      have f4 := HO7.out.frozenAt (r + 1)
                      have f5 := HO7.out.frozenAt r
                      have HS8 := hide (own_swapV HO7.out (r + 1) r Z V)
                      rw [rowAt_swap Prod.snd T V r _ hTr] at HS8
                      clear hTr
                      go_region
                      have hkV : Keeps (fun b => b = gv) w5 ((w5.setCell ⟨gv, r + 1, none⟩ (.int .i64 Z)).setCell ⟨gv, r, none⟩ (.int .i64 V)) := ((Keeps.refl (fun b => b = gv) w5).setCell _ _ _ (.inl rfl)).setCell _ _ _ (.inl rfl)
                      have HS9 : Hid (((w5.setCell ⟨gv, r + 1, none⟩ (.int .i64 Z)).setCell ⟨gv, r, none⟩ (.int .i64 V)).drew.ownsRow w.heap.size 31 2 (.slice (some ⟨g, 0, none⟩) (j + 1) lc1) (j + 1) (pcells (rowAt Prod.fst T (A, nn) r))) := (own_keep HS5.out hkV (fun b hb e => by
                        subst e
                        exact rows_apart HO7.out HS5.out (by decide) b rfl hb)).drew
                      have HT9 : Hid (TrieIs ((w5.setCell ⟨gv, r + 1, none⟩ (.int .i64 Z)).setCell ⟨gv, r, none⟩ (.int .i64 V)).drew w.heap.size N2 (upd C A nn (some V))) := (HT7.out.keeps hkV fun b hb e => by subst e; exact HNW.out.2 b rfl hb).of_blocks fun _ _ => rfl
                      have HB9 : Hid (Below w.heap.size w ((w5.setCell ⟨gv, r + 1, none⟩ (.int .i64 Z)).setCell ⟨gv, r, none⟩ (.int .i64 V)).drew) := (HB7.out.trans (hkV.below _ HB7.out.size fun b e => by subst e; exact (own_lt HO7.out b rfl).1)).drew
                      clear hkV
                      go_wp2
                      exact ⟨⟨r, by omega, by go_num, HS9, HS8.out.drew, HD2, HT9, HB9⟩, by simp [intOf] <;> omega⟩
          · --FOUND
            rw [← HTn.out] at ha hi
            rw [ha]
            have hg := get_any A (nn : Int) w.heap.size we N C hA HPq.out.tr
            rw [hh] at hg
            unfold pfx at hg
            have HG := hide hg
            have HH := hide hh
            have HCv := hide hCv
            have HKey := hide hkey
            have HTi := hide hTi
            clear ha hg hh hCv hkey
            refine HG.out.mono ?_
            rintro e wg ⟨rfl, hbg⟩
            have HPg : Hid (Play w.heap.size wg T (.slice la j lc) (.slice va j vc) w.heap.size N C) := HPq.out.later hbg
            have HBg : Hid (Below w.heap.size w wg) := HBq.out.trans (hbg.mono HBq.out.size)
            rw [← hbg.cell (p := ⟨X, 0, none⟩) hze] at e0
            rw [← hbg.cell (p := ⟨X, 1, none⟩) hze] at e1
            rw [← hbg.cell (p := ⟨X, 2, none⟩) hze] at e2
            rw [← hbg.cell (p := ⟨X, 3, none⟩) hze] at e3
            have hzg : X < wg.heap.size := Nat.lt_of_lt_of_le hze hbg.size
            clear hbg hze HPq HBq HG
            have hlo : wg.ownsRow w.heap.size 31 2 (.slice la j lc) j (pcells (T.map Prod.fst)) := by have := HPg.out.lo; rw [← HTn.out] at this; exact this
            have hvo : wg.ownsRow w.heap.size 3 1 (.slice va j vc) j (vcells (T.map Prod.snd)) := by have := HPg.out.vo; rw [← HTn.out] at this; exact this
            obtain ⟨g, c, hv, _, _⟩ := hlo.form (by omega)
            obtain ⟨rfl, rfl⟩ : la = some ⟨g, 0, none⟩ ∧ lc = c := by cases hv; exact ⟨rfl, rfl⟩
            obtain ⟨gv, c9, hv9, _, _⟩ := hvo.form (by omega)
            obtain ⟨rfl, rfl⟩ : va = some ⟨gv, 0, none⟩ ∧ vc = c9 := by cases hv9; exact ⟨rfl, rfl⟩
            have v0 : wg.cell? ⟨gv, i, none⟩ = some (.int .i64 v) := by rw [hvo.cellAt i (by omega)]; exact vcells_get (getElem_key hTi).2
            have hii : (i : Int) < (j : Int) := by omega
            have hi0 : (0 : Int) ≤ (i : Int) := by omega
            have HLo := hide hlo
            have HVo := hide hvo
            clear hv hv9 hlo hvo hTi
            cases dr with
            | true =>
              have hd := drop_any A w.heap.size (nn : Int) wg N C hA HPg.out.tr
              rw [HH.out, dropC_key HKey.out] at hd
              unfold pfx at hd
              have HD := hide hd
              clear hd
              go_wp2_with fail
              refine HD.out.mono ?_
              rintro e wd ⟨rfl, N2, ht2, hk2, hs2⟩
              obtain ⟨rw1, rw2, rw3, rw4, rw5⟩ := HPg.out.rows hk2 (fun b hb => .inl (hs2 b hb)) HBg.out.size
              rw [← HTn.out] at rw1 rw2
              have HB2 : Hid (Below w.heap.size w wd) := HBg.out.trans (hk2.below _ HBg.out.size HPg.out.nb)
              have HT2 := hide ht2
              have HR1 := hide rw1
              have HR2 := hide rw2
              have HNb := hide rw5
              clear ht2 hk2 hs2 rw1 rw2 rw3 rw4 rw5 v0 e0 e1 e2 e3
              have hw1 : IntKind.i64.wrap ((i : Int) + 1) = (i : Int) + 1 := by rw [IntKind.wrap_i64]; omega
              have hcl : j ≤ lc := by
                rcases HR1.out.2 with ⟨h, _⟩ | ⟨g2, cap, cur, h, _, _, h2, _⟩
                · cases h
                · cases h; exact h2
              have hcv : j ≤ vc := by
                rcases HR2.out.2 with ⟨h, _⟩ | ⟨g2, cap, cur, h, _, _, h2, _⟩
                · cases h
                · cases h; exact h2
              have q1 : i ≤ lc := by omega
              have q2 : i ≤ vc := by omega
              have q3 : i + 1 ≤ j := by omega
              have q4 : i + 1 ≤ lc := by omega
              have q5 : i + 1 ≤ vc := by omega
              have q6 : (i : Int) ≤ (lc : Int) := by omega
              have q7 : (i : Int) ≤ (vc : Int) := by omega
              have q8 : (i : Int) + 1 ≤ (j : Int) := by omega
              go_wp2_with fail
              refine region_pre2 (fun W => Below wd.heap.size wd W) [1, 2, 3, 5, 6, 7, 8, 11, 12, 13, 15, 16, 17, 18] 8 (lstG 0 0) (by kernel_rfl) (by kernel_rfl) (by rfl) (by kernel_rfl) (by kernel_rfl) ⟨rfl, rfl, rfl, Nat.le_refl _, fun _ _ => rfl⟩ ?_
              repeat refine pre_q (by rfl) (by rfl) (fun w9 h9 => (by clear h9; go_simp; first | done | rfl)) (by go_simp; first | done | rfl) ?_
              show wpAnyH _ _ _ _ _ _ _ _ _
              refine gone_rows _ wd (by rfl) ⟨_, _, rfl⟩ ⟨_, _, rfl⟩ ⟨_, _, rfl⟩ ⟨_, _, rfl⟩ ⟨_, _, rfl⟩ ⟨_, _, rfl⟩ ⟨_, _, _, rfl⟩ ⟨_, _, _, rfl⟩ (by kernel_rfl) (by kernel_rfl) (by kernel_rfl) (by kernel_rfl) _ _ _ _ _ _ _ _ _ _ ((T.take i).map Prod.fst) ((T.drop (i + 1)).map Prod.fst) ((T.take i).map Prod.snd) ((T.drop (i + 1)).map Prod.snd) (by rfl) (by rfl) (by rfl) (by rfl) ?lX ?lY ?lU ?lZ ?hn ?cX ?cY ?cU ?cZ ?fin wd.drew ⟨rfl, rfl, rfl, Nat.le_refl _, fun _ _ => rfl⟩
              case lX => rw [List.length_map, List.length_take]; have := HTn.out; omega
              case lY => rw [List.length_map, List.length_drop]; have := HTn.out; omega
              case lU => rw [List.length_map, List.length_take]; have := HTn.out; omega
              case lZ => rw [List.length_map, List.length_drop]; have := HTn.out; omega
              case hn => omega
              case cX => exact cells_part HR1.out [] _ (pcells ((T.drop i).map Prod.fst)) (by rw [List.nil_append, ← pcells_app, ← List.map_append, List.take_append_drop]) 0 rfl
              case cY =>
                by_cases hce : lc = i + 1
                · exact .inl (by rw [List.drop_eq_nil_of_le (by have := HTn.out; omega)]; rfl)
                · rw [if_neg hce]
                  exact cells_part HR1.out (pcells ((T.take (i + 1)).map Prod.fst)) _ [] (by rw [List.append_nil, ← pcells_app, ← List.map_append, List.take_append_drop]) _ (by rw [pcells_length, List.length_map, List.length_take]; have := HTn.out; congr 1; omega)
              case cU => exact cells_part HR2.out [] _ (vcells ((T.drop i).map Prod.snd)) (by rw [List.nil_append, ← vcells_app, ← List.map_append, List.take_append_drop]) 0 rfl
              case cZ =>
                by_cases hce : vc = i + 1
                · exact .inl (by rw [List.drop_eq_nil_of_le (by have := HTn.out; omega)]; rfl)
                · rw [if_neg hce]
                  exact cells_part HR2.out (vcells ((T.take (i + 1)).map Prod.snd)) _ [] (by rw [List.append_nil, ← vcells_app, ← List.map_append, List.take_append_drop]) _ (by rw [vcells_length, List.length_map, List.length_take]; have := HTn.out; omega)
              case fin =>
                intro W u1 u2 x1 x2 x3 x4 x5 x6 ho1 ho2 hbW
                refine ⟨fun _ h => (by cases h), ?_⟩
                obtain ⟨la1, lc1, rfl⟩ := slice_of ho1
                obtain ⟨va1, vc1, rfl⟩ := slice_of ho2
                have HBW : Hid (Below w.heap.size w W) := HB2.out.trans (hbW.mono HB2.out.size)
                have hlen : (T.take i ++ T.drop (i + 1)).length = i + (j - (i + 1)) := by rw [List.length_append, List.length_take, List.length_drop]; have := HTn.out; omega
                have HPW : Hid (Play w.heap.size W (T.take i ++ T.drop (i + 1)) (.slice la1 (i + (j - (i + 1))) lc1) (.slice va1 (i + (j - (i + 1))) vc1) w.heap.size N2 (upd C A nn none)) := by
                  have hgone := play_gone HPg.out.up HPg.out.has HTi.out
                  refine ⟨HT2.out.later hbW, ?_, ?_, hgone.1, hgone.2, fun b hb h => ?_, fun b hb h => ?_, HNb.out⟩
                  · rw [hlen, List.map_append, pcells_app]; exact own_base1 ho1 HB2.out.size
                  · rw [hlen, List.map_append, vcells_app]; exact own_base1 ho2 HB2.out.size
                  · have h1 := (own_lt ho1 b hb).1; have h2 := HT2.out.lt b h; omega
                  · have h1 := (own_lt ho2 b hb).1; have h2 := HT2.out.lt b h; omega
                have HLW : Hid ((T.take i ++ T.drop (i + 1)).length ≤ k + 1) := by show (T.take i ++ T.drop (i + 1)).length ≤ k + 1; rw [hlen]; have := HL.out; have := HTn.out; omega
                generalize i + (j - (i + 1)) = jn at *
                clear hlen ho1 ho2 hbW
                go_wp2
                exact ⟨⟨k + 1, _, N2, _, by omega, by go_num, HPW, HBW, HLW⟩, by simp [intOf]; omega⟩
            | false =>
              have hst := fun w1 (h1 : TrieIs w1 w.heap.size N C) => set_right A nn w.heap.size V w1 N C hA (key_right HKey.out) h1
              have hrt := fun w1 => right_any A (nn : Int) w1
              rw [key_right HKey.out] at hrt
              unfold pfx at hst hrt
              have HSt := hide hst
              have HRt := hide hrt
              clear hst hrt
              go_wp2_with fail
              refine region_ord (fun w' => w'.cell? ⟨X, 1, none⟩ = some (.int .u32 (A : Int)) ∧ w'.cell? ⟨X, 2, none⟩ = some (.int .i64 (nn : Int)) ∧ w'.cell? ⟨X, 3, none⟩ = some (.int .i64 V)) (fun k => k == 5 || k == 8) [0, 1, 2, 3, 4, 6, 7, 5, 8, 9] (by kernel_rfl) (by kernel_rfl) (by rfl) (by kernel_rfl) ⟨e1, e2, e3⟩ ?_
              repeat refine ord_q (by rfl) (by rfl) (by rfl) (fun w9 h9 => (by obtain ⟨s1, s2, s3⟩ := h9; go_simp; first | done | rfl)) (by go_simp; first | done | rfl) ?_
              have hcl : ∀ w', Keeps (Blk N) wg.drew w' → w'.cell? ⟨X, 1, none⟩ = some (.int .u32 (A : Int)) ∧ w'.cell? ⟨X, 2, none⟩ = some (.int .i64 (nn : Int)) ∧ w'.cell? ⟨X, 3, none⟩ = some (.int .i64 V) := fun w' hk => by
                rw [hk.cell ⟨X, 1, none⟩ hzg HXl.out.2.2, hk.cell ⟨X, 2, none⟩ hzg HXl.out.2.2, hk.cell ⟨X, 3, none⟩ hzg HXl.out.2.2]
                exact ⟨e1, e2, e3⟩
              refine ord_l (by rfl) (by rfl) (by rfl) ?_
              go_simp
              refine (HSt.out wg.drew (HPg.out.tr.of_blocks fun _ _ => rfl)).mono ?_
              rintro e w2 ⟨rfl, N2, ht2, hk2, hs2⟩
              refine ⟨hcl w2 hk2, ?_⟩
              refine ord_l (by rfl) (by rfl) (by rfl) ?_
              go_simp
              refine (HRt.out w2).mono ?_
              rintro e ws ⟨rfl, hb3⟩
              have hk3 : Keeps (Blk N) wg ws := ((Keeps.refl (Blk N) wg).drew.trans hk2 fun _ _ h => h).trans (Keeps.of_below hb3 (Blk N)) fun _ _ h => h
              have hcs := hcl ws (hk2.trans (Keeps.of_below hb3 (Blk N)) fun _ _ h => h)
              have HTs : Hid (TrieIs ws w.heap.size N2 (upd C A nn (some V))) := ht2.later hb3
              obtain ⟨rw1, rw2, rw3, rw4, rw5⟩ := HPg.out.rows hk3 hs2 HBg.out.size
              rw [← HTn.out] at rw1 rw2
              obtain ⟨g1, g2, g3⟩ := hcs
              have HBs : Hid (Below w.heap.size w ws) := HBg.out.trans (hk3.below _ HBg.out.size HPg.out.nb)
              have v1 : ws.cell? ⟨gv, i, none⟩ = some (.int .i64 v) := by rw [rw2.cellAt i (by omega)]; exact vcells_get (getElem_key HTi.out).2
              have f1 := rw2.frozenAt i
              have hst2 := rw2.stored i (.int .i64 V)
              have hgvz : gv < ws.heap.size := (own_lt rw2 gv rfl).2
              have hkv : Keeps (fun b => b = gv) ws (ws.setCell ⟨gv, i, none⟩ (.int .i64 V)) := (Keeps.refl (fun b => b = gv) ws).setCell _ _ _ (.inl rfl)
              have HPf : Hid (Play w.heap.size (ws.setCell ⟨gv, i, none⟩ (.int .i64 V)) (T.set i ((A, nn), V)) (.slice (some ⟨g, 0, none⟩) j lc) (.slice (some ⟨gv, 0, none⟩) j vc) w.heap.size N2 (upd C A nn (some V))) := by
                have ht := play_turn HPg.out.up HPg.out.has (z := V) HTi.out
                refine ⟨HTs.out.keeps hkv fun b hb e => by subst e; exact rw4 b rfl hb, ?_, ?_, by rw [ht.1]; exact HPg.out.up, ht.2, rw3, rw4, rw5⟩
                · rw [List.length_set, ht.1, ← HTn.out]
                  exact own_keep rw1 hkv fun b hb e => by subst e; exact rows_apart rw2 rw1 (by decide) b rfl hb
                · rw [List.length_set, List.map_set, ← vcells_set, ← HTn.out]
                  exact hst2.1
              have HBf : Hid (Below w.heap.size w (ws.setCell ⟨gv, i, none⟩ (.int .i64 V))) := HBs.out.trans (hkv.below _ HBs.out.size fun b e => by subst e; exact (own_lt rw2 b rfl).1)
              have HLf : Hid ((T.set i ((A, nn), V)).length ≤ k + 1) := by show (T.set i ((A, nn), V)).length ≤ k + 1; rw [List.length_set]; have := HL.out; omega
              clear ht2 hk2 hs2 hb3 hk3 hcl rw1 rw2 rw3 rw4 rw5 hst2 hkv HLo HVo
              refine ⟨⟨g1, g2, g3⟩, ?_⟩
              repeat refine ord_q (by rfl) (by rfl) (by rfl) (fun w9 h9 => (by obtain ⟨s1, s2, s3⟩ := h9; go_simp; first | done | rfl)) (by go_simp; first | done | rfl) ?_
              refine ⟨fun _ h => (by cases h), ?_⟩
              clear e0 e1 e2 e3 v0
              go_wp2
              exact ⟨⟨k + 1, _, N2, _, by omega, by go_num, HPf, HBf, HLf⟩, by simp [intOf]; omega⟩
    · --END
      obtain rfl : k = n := by omega
      have dk : decide ((k : Int) < (k : Int)) = false := decide_eq_false (by omega)
      clear hlt hk
      have hT60 : T.length ≤ 60 := by have := HL.out; omega
      obtain ⟨tn, htn⟩ : ∃ tn, tn = T.length := ⟨_, rfl⟩
      have HTn := hide htn
      have HP0 : Hid (Play w.heap.size wr T (.slice la tn lc) (.slice va tn vc) w.heap.size N C) := by have := HP.out; rw [← HTn.out] at this; exact this
      have HB0 := hide HB.out
      rw [← htn]
      rw [← htn] at hT60
      clear htn HP HB
      go_wp2
      go_loopw [15] (fun ii wq => ∃ i : Nat, i ≤ m ∧ ii = .int .i64 i ∧ Hid (Play w.heap.size wq T (.slice la tn lc) (.slice va tn vc) w.heap.size N C) ∧ Hid (Below w.heap.size w wq)) (fun ii _ => m - (intOf ii).toNat)
      case atStart => exact ⟨0, Nat.zero_le _, rfl, HP0, HB0⟩
      case round =>
        clear HP0 HB0
        obtain ⟨i, hi, rfl, HP, HB⟩ := hrel
        by_cases hlt : i < m
        · obtain rfl : ab = some ⟨gb, ob, none⟩ := HAb.out (by omega)
          obtain ⟨D, hD⟩ : ∃ t, addrs[i]? = some t := ⟨addrs[i]'(by have := HMm.out; omega), by simp⟩
          obtain ⟨d9, hD2⟩ := HAd.out i D hD
          have hgbw : gb < w.heap.size := World.block_lt_of_cell? w _ d9
          have hii : (i : Int) < (m : Int) := by omega
          have hi0 : (0 : Int) ≤ (i : Int) := by omega
          clear hD
          go_wp2
          go_loopw [16, 17] (fun bb qq wq => ∃ q : Nat, q ≤ tn ∧ bb = .int .i64 (bestUp T D q) ∧ qq = .int .i64 q ∧ Hid (Play w.heap.size wq T (.slice la tn lc) (.slice va tn vc) w.heap.size N C) ∧ Hid (Below w.heap.size w wq)) (fun _ qq _ => tn - (intOf qq).toNat)
          case atStart => exact ⟨0, Nat.zero_le _, rfl, rfl, HP, HB⟩
          case round =>
            clear HP HB
            obtain ⟨q, hq, rfl, rfl, HPr, HBr⟩ := hrel
            by_cases hqt : q < tn
            · obtain ⟨⟨⟨Y, M⟩, Z⟩, hTq⟩ : ∃ t, T[q]? = some t := ⟨T[q]'(by have := HTn.out; omega), by simp⟩
              have hlo : wr.ownsRow w.heap.size 31 2 (.slice la tn lc) tn (pcells (T.map Prod.fst)) := by have := HPr.out.lo; rw [← HTn.out] at this; exact this
              obtain ⟨g, c, hv, _, _⟩ := hlo.form (by omega)
              obtain ⟨rfl, rfl⟩ : la = some ⟨g, 0, none⟩ ∧ lc = c := by cases hv; exact ⟨rfl, rfl⟩
              have y0 : wr.cell? ⟨g, q * 2, none⟩ = some (.int .u32 (Y : Int)) := by rw [hlo.cellAt (q * 2) (by omega)]; exact (spcells_get _ q _ (getElem_key hTq).1).1
              have y1 : wr.cell? ⟨g, q * 2 + 1, none⟩ = some (.int .i64 (M : Int)) := by rw [hlo.cellAt (q * 2 + 1) (by omega)]; exact (spcells_get _ q _ (getElem_key hTq).1).2
              have d0 : wr.cell? ⟨gb, ob + i, none⟩ = some (.int .u32 (D : Int)) := by rw [HBr.out.cell (p := ⟨gb, ob + i, none⟩) hgbw]; exact d9
              have hgz : g < wr.heap.size := World.block_lt_of_cell? wr _ y0
              have hgbz : gb < wr.heap.size := World.block_lt_of_cell? wr _ d0
              have hkey : Key Y M := HPr.out.tr.keyed Y M (by rw [(HPr.out.has Y M Z).2 (List.mem_of_getElem? hTq)]; rfl)
              have hco := fun w1 => rcovers_any Y D (M : Int) 32 w1 hkey.2.2 hD2
              have hcb : covB Y (M : Int) D 32 = covT D ((Y, M), Z) := by
                have h32 : rightB D (32 : Int) = true := by have := rightB_nat D 32 (by omega); rw [show ((32 : Nat) : Int) = 32 from rfl] at this; rw [this]; exact decide_eq_true (cutTo_all D)
                rw [covB_both (key_right hkey) h32 (by have := hkey.1; omega)]
                rfl
              rw [hcb] at hco
              unfold pfx at hco
              have hqi : (q : Int) < (tn : Int) := by omega
              have hq0 : (0 : Int) ≤ (q : Int) := by omega
              have hst : bestUp T D (q + 1) = if covT D ((Y, M), Z) = true ∧ (bestUp T D q < 0 ∨ lenAt1 T (bestUp T D q) < (M : Int)) then (q : Int) else bestUp T D q := by rw [bestUp, hTq]
              have hbu := bestUp_is T D q (by have := HTn.out; omega)
              clear hcb hv
              cases hc : covT D ((Y, M), Z) with
              | false =>
                as_aux_lemma =>
                  have HUp : Hid (bestUp T D (q + 1) = bestUp T D q) := by show bestUp T D (q + 1) = _; rw [hst, if_neg (fun h => by rw [hc] at h; cases h.1)]
                  rw [hc] at hco
                  have HCo := hide hco
                  clear hco hst hbu hc hTq hlo
                  generalize bestUp T D q = bu at *
                  go_wp2_with fail
                  refine region_mix (fun w' => w'.cell? ⟨g, q * 2, none⟩ = some (.int .u32 (Y : Int)) ∧ w'.cell? ⟨g, q * 2 + 1, none⟩ = some (.int .i64 (M : Int)) ∧ w'.cell? ⟨gb, ob + i, none⟩ = some (.int .u32 (D : Int))) (fun k => k == 9) (by kernel_rfl) (by kernel_rfl) (by kernel_rfl) ⟨y0, y1, d0⟩ ?_
                  repeat (first | refine mix_q (by rfl) (by rfl) (fun w9 h9 => (by obtain ⟨s0, s1, s2⟩ := h9; go_simp; first | done | rfl)) (by go_simp; first | done | rfl) ?_ | refine mix_s (by rfl) (by rfl) (by go_simp; first | done | rfl) ?_)
                  refine mix_l (by rfl) (by rfl) (by rfl) ?_
                  go_simp
                  refine (HCo.out wr.drew).mono ?_
                  rintro e w2 ⟨rfl, hb2⟩
                  have hbw : Below wr.heap.size wr w2 := ⟨hb2.os, hb2.tape, hb2.output, hb2.size, hb2.block⟩
                  have HP2 := hide (HPr.out.later hbw)
                  have HB2 : Hid (Below w.heap.size w w2) := HBr.out.trans (hbw.mono HBr.out.size)
                  refine ⟨⟨by rw [hbw.cell (p := ⟨g, q * 2, none⟩) hgz]; exact y0, by rw [hbw.cell (p := ⟨g, q * 2 + 1, none⟩) hgz]; exact y1, by rw [hbw.cell (p := ⟨gb, ob + i, none⟩) hgbz]; exact d0⟩, ?_⟩
                  repeat (first | refine mix_q (by rfl) (by rfl) (fun w9 h9 => (by obtain ⟨s0, s1, s2⟩ := h9; go_simp; first | done | rfl)) (by go_simp; first | done | rfl) ?_ | refine mix_s (by rfl) (by rfl) (by go_simp; first | done | rfl) ?_)
                  refine ⟨fun _ h => (by cases h), ?_⟩
                  clear hb2 hbw y0 y1 d0
                  go_wp2
                  exact ⟨⟨q + 1, by omega, by rw [HUp.out], by go_num, HP2, HB2⟩, by simp [intOf]; omega⟩
              | true =>
                rw [hc] at hco
                have HCo := hide hco
                rcases hbu with ⟨h1, _⟩ | ⟨b, ⟨⟨Yb, Mb⟩, Zb⟩, h1, h2, h3, _, h5, _⟩
                · as_aux_lemma =>
                    have HUp : Hid (bestUp T D (q + 1) = (q : Int)) := by show bestUp T D (q + 1) = _; rw [hst, if_pos ⟨hc, .inl (by omega)⟩]
                    clear hco hst hc hTq hlo
                    rw [h1]
                    clear h1
                    go_wp2_with fail
                    refine region_mix (fun w' => w'.cell? ⟨g, q * 2, none⟩ = some (.int .u32 (Y : Int)) ∧ w'.cell? ⟨g, q * 2 + 1, none⟩ = some (.int .i64 (M : Int)) ∧ w'.cell? ⟨gb, ob + i, none⟩ = some (.int .u32 (D : Int))) (fun k => k == 9) (by kernel_rfl) (by kernel_rfl) (by kernel_rfl) ⟨y0, y1, d0⟩ ?_
                    repeat (first | refine mix_q (by rfl) (by rfl) (fun w9 h9 => (by obtain ⟨s0, s1, s2⟩ := h9; go_simp; first | done | rfl)) (by go_simp; first | done | rfl) ?_ | refine mix_s (by rfl) (by rfl) (by go_simp; first | done | rfl) ?_)
                    refine mix_l (by rfl) (by rfl) (by rfl) ?_
                    go_simp
                    refine (HCo.out wr.drew).mono ?_
                    rintro e w2 ⟨rfl, hb2⟩
                    have hbw : Below wr.heap.size wr w2 := ⟨hb2.os, hb2.tape, hb2.output, hb2.size, hb2.block⟩
                    have HP2 := hide (HPr.out.later hbw)
                    have HB2 : Hid (Below w.heap.size w w2) := HBr.out.trans (hbw.mono HBr.out.size)
                    refine ⟨⟨by rw [hbw.cell (p := ⟨g, q * 2, none⟩) hgz]; exact y0, by rw [hbw.cell (p := ⟨g, q * 2 + 1, none⟩) hgz]; exact y1, by rw [hbw.cell (p := ⟨gb, ob + i, none⟩) hgbz]; exact d0⟩, ?_⟩
                    repeat (first | refine mix_q (by rfl) (by rfl) (fun w9 h9 => (by obtain ⟨s0, s1, s2⟩ := h9; go_simp; first | done | rfl)) (by go_simp; first | done | rfl) ?_ | refine mix_s (by rfl) (by rfl) (by go_simp; first | done | rfl) ?_)
                    refine ⟨fun _ h => (by cases h), ?_⟩
                    clear hb2 hbw y0 y1 d0
                    go_wp2
                    exact ⟨⟨q + 1, by omega, by rw [HUp.out], by go_num, HP2, HB2⟩, by simp [intOf]; omega⟩
                · have l1 : wr.cell? ⟨g, b * 2 + 1, none⟩ = some (.int .i64 (Mb : Int)) := by rw [hlo.cellAt (b * 2 + 1) (by omega)]; exact (spcells_get _ b _ (getElem_key h3).1).2
                  have hbi : (b : Int) < (tn : Int) := by omega
                  have hb0 : (0 : Int) ≤ (b : Int) := by omega
                  have dbz : decide ((b : Int) < 0) = false := decide_eq_false (by omega)
                  simp only at h5
                  by_cases hgt : Mb < M
                  · as_aux_lemma =>
                      have HUp : Hid (bestUp T D (q + 1) = (q : Int)) := by show bestUp T D (q + 1) = _; rw [hst, if_pos ⟨hc, .inr (by rw [h5]; omega)⟩]
                      have dgt : (Mb : Int) < (M : Int) := by omega
                      clear hco hst hc hTq hlo h5 h3
                      rw [h2]
                      clear h2
                      go_wp2_with fail
                      refine region_mix (fun w' => w'.cell? ⟨g, q * 2, none⟩ = some (.int .u32 (Y : Int)) ∧ w'.cell? ⟨g, q * 2 + 1, none⟩ = some (.int .i64 (M : Int)) ∧ w'.cell? ⟨gb, ob + i, none⟩ = some (.int .u32 (D : Int)) ∧ w'.cell? ⟨g, b * 2 + 1, none⟩ = some (.int .i64 (Mb : Int))) (fun k => k == 9) (by kernel_rfl) (by kernel_rfl) (by kernel_rfl) ⟨y0, y1, d0, l1⟩ ?_
                      repeat (first | refine mix_q (by rfl) (by rfl) (fun w9 h9 => (by obtain ⟨s0, s1, s2, s3⟩ := h9; go_simp; first | done | rfl)) (by go_simp; first | done | rfl) ?_ | refine mix_s (by rfl) (by rfl) (by go_simp; first | done | rfl) ?_)
                      refine mix_l (by rfl) (by rfl) (by rfl) ?_
                      go_simp
                      refine (HCo.out wr.drew).mono ?_
                      rintro e w2 ⟨rfl, hb2⟩
                      have hbw : Below wr.heap.size wr w2 := ⟨hb2.os, hb2.tape, hb2.output, hb2.size, hb2.block⟩
                      have HP2 := hide (HPr.out.later hbw)
                      have HB2 : Hid (Below w.heap.size w w2) := HBr.out.trans (hbw.mono HBr.out.size)
                      refine ⟨⟨by rw [hbw.cell (p := ⟨g, q * 2, none⟩) hgz]; exact y0, by rw [hbw.cell (p := ⟨g, q * 2 + 1, none⟩) hgz]; exact y1, by rw [hbw.cell (p := ⟨gb, ob + i, none⟩) hgbz]; exact d0, by rw [hbw.cell (p := ⟨g, b * 2 + 1, none⟩) hgz]; exact l1⟩, ?_⟩
                      repeat (first | refine mix_q (by rfl) (by rfl) (fun w9 h9 => (by obtain ⟨s0, s1, s2, s3⟩ := h9; go_simp; first | done | rfl)) (by go_simp; first | done | rfl) ?_ | refine mix_s (by rfl) (by rfl) (by go_simp; first | done | rfl) ?_)
                      refine ⟨fun _ h => (by cases h), ?_⟩
                      clear hb2 hbw y0 y1 d0
                      go_wp2
                      exact ⟨⟨q + 1, by omega, by rw [HUp.out], by go_num, HP2, HB2⟩, by simp [intOf]; omega⟩
                  · as_aux_lemma =>
                      have hnot : ¬ (covT D ((Y, M), Z) = true ∧ (bestUp T D q < 0 ∨ lenAt1 T (bestUp T D q) < (M : Int))) := by
                        rintro ⟨_, h9 | h9⟩
                        · omega
                        · rw [h5] at h9; omega
                      have HUp : Hid (bestUp T D (q + 1) = (b : Int)) := by show bestUp T D (q + 1) = _; rw [hst, if_neg hnot]; exact h2
                      clear hnot
                      have dgt : decide ((Mb : Int) < (M : Int)) = false := decide_eq_false (by omega)
                      clear hco hst hc hTq hlo h5 h3
                      rw [h2]
                      clear h2
                      go_wp2_with fail
                      refine region_mix (fun w' => w'.cell? ⟨g, q * 2, none⟩ = some (.int .u32 (Y : Int)) ∧ w'.cell? ⟨g, q * 2 + 1, none⟩ = some (.int .i64 (M : Int)) ∧ w'.cell? ⟨gb, ob + i, none⟩ = some (.int .u32 (D : Int)) ∧ w'.cell? ⟨g, b * 2 + 1, none⟩ = some (.int .i64 (Mb : Int))) (fun k => k == 9) (by kernel_rfl) (by kernel_rfl) (by kernel_rfl) ⟨y0, y1, d0, l1⟩ ?_
                      repeat (first | refine mix_q (by rfl) (by rfl) (fun w9 h9 => (by obtain ⟨s0, s1, s2, s3⟩ := h9; go_simp; first | done | rfl)) (by go_simp; first | done | rfl) ?_ | refine mix_s (by rfl) (by rfl) (by go_simp; first | done | rfl) ?_)
                      refine mix_l (by rfl) (by rfl) (by rfl) ?_
                      go_simp
                      refine (HCo.out wr.drew).mono ?_
                      rintro e w2 ⟨rfl, hb2⟩
                      have hbw : Below wr.heap.size wr w2 := ⟨hb2.os, hb2.tape, hb2.output, hb2.size, hb2.block⟩
                      have HP2 := hide (HPr.out.later hbw)
                      have HB2 : Hid (Below w.heap.size w w2) := HBr.out.trans (hbw.mono HBr.out.size)
                      refine ⟨⟨by rw [hbw.cell (p := ⟨g, q * 2, none⟩) hgz]; exact y0, by rw [hbw.cell (p := ⟨g, q * 2 + 1, none⟩) hgz]; exact y1, by rw [hbw.cell (p := ⟨gb, ob + i, none⟩) hgbz]; exact d0, by rw [hbw.cell (p := ⟨g, b * 2 + 1, none⟩) hgz]; exact l1⟩, ?_⟩
                      repeat (first | refine mix_q (by rfl) (by rfl) (fun w9 h9 => (by obtain ⟨s0, s1, s2, s3⟩ := h9; go_simp; first | done | rfl)) (by go_simp; first | done | rfl) ?_ | refine mix_s (by rfl) (by rfl) (by go_simp; first | done | rfl) ?_)
                      refine ⟨fun _ h => (by cases h), ?_⟩
                      clear hb2 hbw y0 y1 d0
                      go_wp2
                      exact ⟨⟨q + 1, by omega, by rw [HUp.out], by go_num, HP2, HB2⟩, by simp [intOf]; omega⟩
            · obtain rfl : q = tn := by omega
              have dq : decide ((q : Int) < (q : Int)) = false := decide_eq_false (by omega)
              have d0 : wr.cell? ⟨gb, ob + i, none⟩ = some (.int .u32 (D : Int)) := by rw [HBr.out.cell (p := ⟨gb, ob + i, none⟩) hgbw]; exact d9
              have hf := find_any D w.heap.size wr N C hD2 HPr.out.tr
              have hbl := best_long HPr.out.has (fun x y z h => HPr.out.tr.keyed x y (by rw [h]; rfl)) D
              rw [← HTn.out] at hbl
              clear hqt hq
              rcases hbl with ⟨ha, hl⟩ | ⟨b, M, v, hbq, ha, hTb, hl⟩
              · as_aux_lemma =>
                  rw [ha]
                  rw [hl] at hf
                  have hz0 : cutTo D (bitsL none) = 0 := cutTo_none D hD2
                  have hz1 : bitsL none = 0 := rfl
                  have hz2 : valL none = 0 := rfl
                  rw [hz0, hz1, hz2] at hf
                  unfold pfx at hf
                  have HF := hide hf
                  clear ha hl hf hz0 hz1 hz2
                  go_wp2_with fail
                  refine HF.out.mono ?_
                  rintro e w2 ⟨rfl, hb2⟩
                  have HB3 : Hid (Below w.heap.size w (w2.alloc (.cells #[.int .u32 ((0 : Nat) : Int), .int .i64 ((0 : Nat) : Int)] 31))) := (HBr.out.trans (hb2.mono HBr.out.size)).alloc (by have := HBr.out.size; have := hb2.size; omega) _
                  have HP3 : Hid (Play w.heap.size (w2.alloc (.cells #[.int .u32 ((0 : Nat) : Int), .int .i64 ((0 : Nat) : Int)] 31)) T (.slice la q lc) (.slice va q vc) w.heap.size N C) := (HPr.out.later hb2).later ((Below.refl _ _).alloc (Nat.le_refl _) _)
                  have c0 : (w2.alloc (.cells #[.int .u32 ((0 : Nat) : Int), .int .i64 ((0 : Nat) : Int)] 31)).cell? ⟨w2.heap.size, 0, none⟩ = some (.int .u32 0) := by simp [go_sem]
                  have c1 : (w2.alloc (.cells #[.int .u32 ((0 : Nat) : Int), .int .i64 ((0 : Nat) : Int)] 31)).cell? ⟨w2.heap.size, 1, none⟩ = some (.int .i64 0) := by simp [go_sem]
                  clear hb2 HF
                  go_wp2_with fail
                  generalize (w2.alloc (.cells #[.int .u32 ((0 : Nat) : Int), .int .i64 ((0 : Nat) : Int)] 31)) = w3 at *
                  generalize w2.heap.size = Xb at *
                  refine region_mix (fun w' => w'.cell? ⟨Xb, 0, none⟩ = some (.int .u32 0) ∧ w'.cell? ⟨Xb, 1, none⟩ = some (.int .i64 0)) (fun _ => false) (by kernel_rfl) (by kernel_rfl) (by kernel_rfl) ⟨c0, c1⟩ ?_
                  repeat (first | refine mix_q (by rfl) (by rfl) (fun w9 h9 => (by obtain ⟨s0, s1⟩ := h9; go_simp; first | done | rfl)) (by go_simp; first | done | rfl) ?_ | refine mix_s (by rfl) (by rfl) (by go_simp; first | done | rfl) ?_)
                  refine ⟨fun _ h => (by cases h), ?_⟩
                  have HB4 : Hid (Below w.heap.size w w3.drew) := HB3.out.drew
                  have HP4 : Hid (Play w.heap.size w3.drew T (.slice la q lc) (.slice va q vc) w.heap.size N C) := HP3.out.later ⟨rfl, rfl, rfl, Nat.le_refl _, fun _ _ => rfl⟩
                  go_wp2
                  exact ⟨⟨i + 1, by omega, by go_num, HP4, HB4⟩, by simp [intOf]; omega⟩
              · as_aux_lemma =>
                  rw [ha]
                  rw [hl] at hf
                  have hz1 : bitsL (some (M, v)) = M := rfl
                  have hz2 : valL (some (M, v)) = v := rfl
                  rw [hz1, hz2] at hf
                  unfold pfx at hf
                  have HF := hide hf
                  have hlo : wr.ownsRow w.heap.size 31 2 (.slice la q lc) q (pcells (T.map Prod.fst)) := by have := HPr.out.lo; rw [← HTn.out] at this; exact this
                  have hvo : wr.ownsRow w.heap.size 3 1 (.slice va q vc) q (vcells (T.map Prod.snd)) := by have := HPr.out.vo; rw [← HTn.out] at this; exact this
                  obtain ⟨g, c, hv, _, _⟩ := hlo.form (by omega)
                  obtain ⟨rfl, rfl⟩ : la = some ⟨g, 0, none⟩ ∧ lc = c := by cases hv; exact ⟨rfl, rfl⟩
                  obtain ⟨gv, c9, hv9, _, _⟩ := hvo.form (by omega)
                  obtain ⟨rfl, rfl⟩ : va = some ⟨gv, 0, none⟩ ∧ vc = c9 := by cases hv9; exact ⟨rfl, rfl⟩
                  have l0 : wr.cell? ⟨g, b * 2, none⟩ = some (.int .u32 (cutTo D M : Int)) := by rw [hlo.cellAt (b * 2) (by omega)]; exact (spcells_get _ b _ (getElem_key hTb).1).1
                  have l1 : wr.cell? ⟨g, b * 2 + 1, none⟩ = some (.int .i64 (M : Int)) := by rw [hlo.cellAt (b * 2 + 1) (by omega)]; exact (spcells_get _ b _ (getElem_key hTb).1).2
                  have vb : wr.cell? ⟨gv, b, none⟩ = some (.int .i64 v) := by rw [hvo.cellAt b (by omega)]; exact vcells_get (getElem_key hTb).2
                  have hgz : g < wr.heap.size := World.block_lt_of_cell? wr _ l0
                  have hgvz : gv < wr.heap.size := World.block_lt_of_cell? wr _ vb
                  have hbi : (b : Int) < (q : Int) := by omega
                  have hb0 : (0 : Int) ≤ (b : Int) := by omega
                  clear ha hl hf hz1 hz2 hv hv9 hlo hvo hTb
                  generalize cutTo D M = Y at *
                  go_wp2_with fail
                  refine HF.out.mono ?_
                  rintro e w2 ⟨rfl, hb2⟩
                  have hal : Below wr.heap.size wr (w2.alloc (.cells #[.int .u32 (Y : Int), .int .i64 (M : Int)] 31)) := hb2.alloc hb2.size _
                  have HB3 : Hid (Below w.heap.size w (w2.alloc (.cells #[.int .u32 (Y : Int), .int .i64 (M : Int)] 31))) := HBr.out.trans (hal.mono HBr.out.size)
                  have HP3 : Hid (Play w.heap.size (w2.alloc (.cells #[.int .u32 (Y : Int), .int .i64 (M : Int)] 31)) T (.slice (some ⟨g, 0, none⟩) q lc) (.slice (some ⟨gv, 0, none⟩) q vc) w.heap.size N C) := HPr.out.later hal
                  have c0 : (w2.alloc (.cells #[.int .u32 (Y : Int), .int .i64 (M : Int)] 31)).cell? ⟨w2.heap.size, 0, none⟩ = some (.int .u32 (Y : Int)) := by simp [go_sem]
                  have c1 : (w2.alloc (.cells #[.int .u32 (Y : Int), .int .i64 (M : Int)] 31)).cell? ⟨w2.heap.size, 1, none⟩ = some (.int .i64 (M : Int)) := by simp [go_sem]
                  rw [← hal.cell (p := ⟨g, b * 2, none⟩) hgz] at l0
                  rw [← hal.cell (p := ⟨g, b * 2 + 1, none⟩) hgz] at l1
                  rw [← hal.cell (p := ⟨gv, b, none⟩) hgvz] at vb
                  clear hb2 hal HF hgz hgvz d0
                  go_wp2_with fail
                  generalize (w2.alloc (.cells #[.int .u32 (Y : Int), .int .i64 (M : Int)] 31)) = w3 at *
                  generalize w2.heap.size = Xb at *
                  refine region_mix (fun w' => w'.cell? ⟨Xb, 0, none⟩ = some (.int .u32 (Y : Int)) ∧ w'.cell? ⟨Xb, 1, none⟩ = some (.int .i64 (M : Int)) ∧ w'.cell? ⟨g, b * 2, none⟩ = some (.int .u32 (Y : Int)) ∧ w'.cell? ⟨g, b * 2 + 1, none⟩ = some (.int .i64 (M : Int)) ∧ w'.cell? ⟨gv, b, none⟩ = some (.int .i64 v)) (fun _ => false) (by kernel_rfl) (by kernel_rfl) (by kernel_rfl) ⟨c0, c1, l0, l1, vb⟩ ?_
                  repeat (first | refine mix_q (by rfl) (by rfl) (fun w9 h9 => (by obtain ⟨s0, s1, s2, s3, s4⟩ := h9; go_simp; first | done | rfl)) (by go_simp; first | done | rfl) ?_ | refine mix_s (by rfl) (by rfl) (by go_simp; first | done | rfl) ?_)
                  refine ⟨fun _ h => (by cases h), ?_⟩
                  have HB4 : Hid (Below w.heap.size w w3.drew) := HB3.out.drew
                  have HP4 : Hid (Play w.heap.size w3.drew T (.slice (some ⟨g, 0, none⟩) q lc) (.slice (some ⟨gv, 0, none⟩) q vc) w.heap.size N C) := HP3.out.later ⟨rfl, rfl, rfl, Nat.le_refl _, fun _ _ => rfl⟩
                  clear c0 c1 l0 l1 vb
                  go_wp2
                  exact ⟨⟨i + 1, by omega, by go_num, HP4, HB4⟩, by simp [intOf]; omega⟩
        · as_aux_lemma =>
            obtain rfl : i = m := by omega
            have di : decide ((i : Int) < (i : Int)) = false := decide_eq_false (by omega)
            have hall : allC C 32 0 0 = T.map Prod.fst := (play_all HP.out.up HP.out.has).all HP.out.tr
            have hlm : (T.map Prod.fst).length ≤ 100000 := by rw [List.length_map, ← HTn.out]; omega
            have HHas := hide HP.out.has
            clear hlt hi
            go_wp2_with fail
            refine (answers_any _).mono ?_
            rintro e w2 ⟨rfl, hb2⟩
            have HP2 := hide (HP.out.later hb2)
            have HB2 : Hid (Below w.heap.size w w2) := HB.out.trans (hb2.mono HB.out.size)
            have ha := all_any w.heap.size w2 N C HP2.out.tr (by rw [hall]; exact hlm)
            rw [hall] at ha
            have HA := hide ha
            clear hb2 ha HP HB
            go_wp2_with fail
            refine HA.out.mono ?_
            rintro e w3 ⟨v3, rfl, ho3, hb3⟩
            have hlo : w3.ownsRow w.heap.size 31 2 (.slice la tn lc) (T.map Prod.fst).length (pcells (T.map Prod.fst)) := by
              have := own_later HP2.out.lo hb3
              rw [List.length_map]
              exact this
            have hsm := sprefixes_any ho3 hlo hlm
            have HB3 : Hid (Below w.heap.size w w3) := HB2.out.trans (hb3.mono HB2.out.size)
            obtain ⟨a3, c3, rfl⟩ := slice_of ho3
            have hlenM : (T.map Prod.fst).length = tn := by rw [List.length_map, HTn.out]
            rw [hlenM] at hsm ⊢
            have HSm := hide hsm
            clear ho3 hb3 hlo hsm hlenM
            go_wp2_with fail
            refine HSm.out.mono ?_
            rintro e w4 ⟨rfl, z, rfl⟩
            have HB4 : Hid (Below w.heap.size w (w3.drewN z)) := below_drewN HB3.out z
            go_wp2
            go_ret
            exact ⟨rfl, HB4.out⟩
end Go.Proofs.Ytfecknbneonidaa
