/- The document's Sectors: an entry's pages. -/
import Derived.Test.YtbecchoidglaeaaRFoot
import Derived.Test.YtbecchoidglaeaaEnt
import Derived.Test.YtbecchoidglaeaaApp
namespace Go.Proofs.Ytbecchoidglaeaa
open Go.RowKit
set_option maxRecDepth 100000

/-- A row of n pages F, all new since B. -/
def PagesIn (w : World) (B : Nat) (v : Value) (n : Nat) (F : Nat → Nat → Nat) : Prop :=
  ∃ pgs, w.ownsRow B 37 1 v n pgs ∧ ∀ i, i < n → ∃ u, pgs[i]? = some u ∧ PageAt w (fun b => B ≤ b ∧ v.ownBlock ≠ some b) u (F i)
theorem rw_own {w : World} {g n c : Nat} {f : Nat → Nat} (h : w.ownsRow 0 5 1 (.slice (some ⟨g, 0, none⟩) n c) n (valsOf f n)) (hn : n ≤ 100000) : Rw w (some ⟨g, 0, none⟩) n f :=
  ⟨by unfold maxLen; omega, fun _ => ⟨g, 0, rfl, fun j hj => by rw [Nat.zero_add, h.cellAt j (by omega), valsOf_get _ _ _ hj]⟩⟩
theorem own_lit (w : World) (f : Nat → Nat) (n : Nat) (hn : n ≤ 100000) : (w.alloc (.cells (valsOf f n).toArray 5)).ownsRow 0 5 1 (.slice (some ⟨w.heap.size, 0, none⟩) n n) n (valsOf f n) := by
  have := World.ownsRow_lit (base := 0) (e := 5) (size := 1) w (valsOf f n).toArray n (Nat.zero_le _) (by unfold maxLen; omega) (by simp [valsOf_length])
  simpa using this
/-- Two more bytes rows joined: append of a row of the call's own and a new one. -/
theorem run_join {w : World} {g0 c0 n m : Nat} {f : Nat → Nat} (e : Nat → Nat) (H : Nat) (hH : w.heap.size = H) (h : w.ownsRow 0 5 1 (.slice (some ⟨g0, 0, none⟩) n c0) n (valsOf f n)) (hn : n ≤ 1000) (hm : m ≤ 1000) :
    ∃ g1 c1 w1, (Builtin.append_ #[37, 37] 37 #[.slice (some ⟨g0, 0, none⟩) n c0, .slice (some ⟨H, 0, none⟩) m m]).run Try.prog (w.alloc (.cells (valsOf e m).toArray 5)) = .ok (.slice (some ⟨g1, 0, none⟩) (n + m) c1) w1 ∧
      w1.ownsRow 0 5 1 (.slice (some ⟨g1, 0, none⟩) (n + m) c1) (n + m) (valsOf (cat f n e) (n + m)) ∧ Keeps (fun b => b = g0) w w1 ∧ (g1 = g0 ∨ H ≤ g1) := by
  subst hH
  obtain ⟨g1, c1, w1, hr, ho, hk, hat⟩ := run_append_in (w.alloc (.cells (valsOf e m).toArray 5)) g0 c0 n (valsOf f n) (h.alloc _) (some ⟨w.heap.size, 0, none⟩) m m e (rw_new w e m (by omega) _) (fun h => by cases h) (by omega)
  rw [vals_cat] at ho
  refine ⟨g1, c1, w1, hr, ho, Keeps.trans ((Keeps.refl _ w).alloc _) hk (fun b _ e => e), ?_⟩
  rcases hat with h1 | h1
  · exact .inl h1
  · exact .inr (by rw [h1]; simp)

theorem page_new (w : World) (p : Nat → Nat) (Q : Nat → Prop) (hQ : Q w.heap.size) : PageAt (w.alloc (.cells (valsOf p 64).toArray 5)) Q (.slice (some ⟨w.heap.size, 0, none⟩) 64 64) p :=
  page_of_rw (rw_new w p 64 (by omega) _) hQ (Nat.le_refl _)
theorem pages_one (w : World) (B H : Nat) (hH : w.heap.size = H) (hB : B ≤ H) (F : Nat → Nat → Nat) (p : Nat → Nat) (hp : ∀ j, j < 64 → p j = F 0 j) :
    PagesIn ((w.alloc (.cells (valsOf p 64).toArray 5)).alloc (.cells #[.slice (some ⟨H, 0, none⟩) 64 64] 37)) B (.slice (some ⟨H + 1, 0, none⟩) 1 1) 1 F := by
  subst hH
  have ho := World.ownsRow_lit (base := B) (e := 37) (size := 1) (w.alloc (.cells (valsOf p 64).toArray 5)) #[.slice (some ⟨w.heap.size, 0, none⟩) 64 64] 1 (by simp; omega) (by unfold maxLen; omega) rfl
  rw [World.size_alloc] at ho
  refine ⟨_, ho, fun i hi => ?_⟩
  obtain rfl : i = 0 := by omega
  exact ⟨_, rfl, ((page_new w p _ ⟨hB, by simp [Value.ownBlock]⟩).keeps (G := fun _ => False) ((Keeps.refl _ _).alloc _) (fun _ _ h => h)).congr hp⟩
theorem run_pages {w : World} {B : Nat} {v : Value} {n : Nat} {F : Nat → Nat → Nat} (h : PagesIn w B v n F) (hn : n ≤ 100000) (H : Nat) (hH : w.heap.size = H) (hB : B ≤ H) (p : Nat → Nat) (hp : ∀ j, j < 64 → p j = F n j) :
    ∃ g c w1, (Builtin.append_ #[29, 29] 29 #[v, .slice (some ⟨H + 1, 0, none⟩) 1 1]).run Try.prog ((w.alloc (.cells (valsOf p 64).toArray 5)).alloc (.cells #[.slice (some ⟨H, 0, none⟩) 64 64] 37)) = .ok (.slice (some ⟨g, 0, none⟩) (n + 1) c) w1 ∧
      PagesIn w1 B (.slice (some ⟨g, 0, none⟩) (n + 1) c) (n + 1) F ∧ Below B w w1 := by
  subst hH
  obtain ⟨pgs, ho, hpg⟩ := h
  obtain ⟨i0, hi0, hz0, hz1, hz2⟩ := info_parts Try.info37
  have hs1 : ((w.alloc (.cells (valsOf p 64).toArray 5)).alloc (.cells #[.slice (some ⟨w.heap.size, 0, none⟩) 64 64] 37)).heap.size = w.heap.size + 1 + 1 := by simp
  obtain ⟨g, c, w1, hr, ho1, hgr, hat, hlt⟩ := run_append_lies (P := Try.prog) ((w.alloc (.cells (valsOf p 64).toArray 5)).alloc (.cells #[.slice (some ⟨w.heap.size, 0, none⟩) 64 64] 37)) 29 29 B 37 i0 _ 1 24 Try.underlying29 hi0 hz0 hz1 hz2 rfl (by omega) v n pgs ((ho.alloc _).alloc _)
    ⟨w.heap.size + 1, 0, none⟩ 1 1 [.slice (some ⟨w.heap.size, 0, none⟩) 64 64] rfl (World.news_of_block (cs := #[.slice (some ⟨w.heap.size, 0, none⟩) 64 64]) (t := 37) (fr := (0, 0)) (by have := heap_alloc_new (w.alloc (.cells (valsOf p 64).toArray 5)) (.cells #[.slice (some ⟨w.heap.size, 0, none⟩) 64 64] 37); rw [World.size_alloc] at this; exact this)) (by simp [Value.oneCell']) (by omega) (by unfold maxLen; omega) (by omega) (by rw [hs1]; omega) _ hs1
  have kk : Keeps (fun b => v.ownBlock = some b) w w1 := (((Keeps.refl _ w).alloc _).alloc _).grown hgr (fun b e => .inl e)
  have hvl := fun b e => ho.lt b e
  have hgn : g ≠ w.heap.size := fun e => by
    rcases hat with h1 | h1
    · have := (hvl g h1).2; omega
    · omega
  have hsz : w.heap.size + 1 + 1 ≤ w1.heap.size := by have := hgr.size; rw [hs1] at this; exact this
  refine ⟨g, c, w1, hr, ⟨_, ho1, fun i hi => ?_⟩, kk.below B hB (fun b e => (hvl b e).1)⟩
  have hlen : pgs.length = n := by have := ho.1; omega
  by_cases e : i < n
  · obtain ⟨u, hu, hpu⟩ := hpg i e
    refine ⟨u, by rw [List.getElem?_append_left (by omega)]; exact hu, ?_⟩
    obtain ⟨b, off, cap, rfl, hc, hb, hf⟩ := hpu.keeps kk (fun b hb e => hb.2 e)
    refine ⟨b, off, cap, rfl, hc, ⟨hb.1, fun e2 => ?_⟩, hf⟩
    simp [Value.ownBlock] at e2
    subst e2
    have hblt : g < w.heap.size := by
      obtain ⟨b', off', cap', e3, _, _, hf'⟩ := hpu
      injection e3 with e3 _ _
      injection e3 with e3
      injection e3 with e3 _ _
      subst e3
      exact World.block_lt_of_cell? w _ (hf' 0 (by omega))
    rcases hat with h1 | h1
    · exact hb.2 h1
    · omega
  · have : i = n := by omega
    subst this
    refine ⟨.slice (some ⟨w.heap.size, 0, none⟩) 64 64, by rw [List.getElem?_append_right (by omega), hlen]; simp, ?_⟩
    have hrow : v.ownBlock ≠ some w.heap.size := fun e => by have := (hvl _ e).2; omega
    have p1 := (page_new w p (fun b => b = w.heap.size) rfl).keeps (G := fun _ => False) ((Keeps.refl _ _).alloc (.cells #[.slice (some ⟨w.heap.size, 0, none⟩) 64 64] 37)) (fun _ _ h => h)
    have p2 := p1.keeps ((Keeps.refl _ _).grown hgr (F := fun b => v.ownBlock = some b) (fun b e => .inl e)) (fun b hb e => by subst hb; exact hrow e)
    exact (p2.mono (fun b hb => by subst hb; exact ⟨hB, by simp [Value.ownBlock]; exact hgn⟩)).congr hp

set_option maxRecDepth 100000 in
set_option maxHeartbeats 1600000 in
theorem sectors_any (gen : Nat) (hg : gen < 4294967296) (a : Option Addr) (len cap : Nat) (f : Nat → Nat) (w : World) (h : Rw w a len f) (hf : ∀ i, i < len → f i < 256) (hl : len ≤ 100000) (hcap : len ≤ cap) :
    Calls Try.prog 26 #[.int .i64 (gen : Int), .slice a len cap] w fun e w' => ∃ v, e = .returned v ∧ PagesIn w' w.heap.size v (cnt len) (ent gen f len) ∧ Below w.heap.size w w' := by
  have H := hide h
  have HF := hide hf
  have HC := hide (crc_lt f len hf)
  clear h hf
  go_enter Try.func26, Try.ntmps26
  go_wp2_with fail
  refine (four_eq gen _ hg).mono ?_
  rintro e w1 ⟨rfl, rfl⟩
  go_wp2_with fail
  refine (four_eq len _ (by omega)).mono ?_
  rintro e w2 ⟨rfl, rfl⟩
  obtain ⟨g3, c3, w3, hr3, ho3, hk3, hg3⟩ := run_join (m := 4) (four len) (w.heap.size + 1) (by simp) (own_lit w (four gen) 4 (by omega)) (by omega) (by omega)
  have HR3 := hide hr3
  have B3 : Hid (Below w.heap.size w w3) := ((Keeps.refl (fun b => w.heap.size ≤ b) w).alloc _ |>.trans (hk3.mono (G := fun b => w.heap.size ≤ b) (fun b _ e => by omega)) (fun _ _ h => h)).below _ (Nat.le_refl _) (fun _ h => h)
  have O3 := hide ho3
  have G3 : Hid (w.heap.size ≤ g3) := by show w.heap.size ≤ g3; omega
  clear hr3 ho3 hk3 hg3
  go_wp2_with ((with_reducible refine wpl_append _ _ 37 (.slice (some ⟨w.heap.size, 0, none⟩) 4 4) (.slice (some ⟨w.heap.size + 1, 0, none⟩) 4 4) _ ?_ ?_ HR3.out ?_); (· rfl); (· rfl))
  refine (ref_rw a len cap f w3 (H.out.below B3.out) HF.out).mono ?_
  rintro e w4 ⟨rfl, rfl⟩
  have hc32 := HC.out
  generalize hcv : crc f len = cv at *
  have HCV := hide hcv
  clear hcv HC
  go_wp2_with fail
  refine (four_eq cv _ hc32).mono ?_
  rintro e w5 ⟨rfl, rfl⟩
  obtain ⟨g5, c5, w5, hr5, ho5, hk5, hg5⟩ := run_join (n := 8) (m := 4) (four cv) w4.heap.size rfl O3.out (by omega) (by omega)
  have HR5 := hide hr5
  have B5 : Hid (Below w.heap.size w w5) := B3.out.trans (hk5.below _ B3.out.size (fun b e => by have := G3.out; omega))
  have O5 : Hid (w5.ownsRow 0 5 1 (.slice (some ⟨g5, 0, none⟩) 12 c5) 12 (valsOf (head12 gen len cv) 12)) := ho5
  have G5 : Hid (w.heap.size ≤ g5) := by have := G3.out; have := B3.out.size; show w.heap.size ≤ g5; omega
  clear hr5 ho5 hk5 hg5 O3 HR3
  go_wp2_with ((with_reducible refine wpl_append _ _ 37 (.slice (some ⟨g3, 0, none⟩) 8 c3) (.slice (some ⟨w4.heap.size, 0, none⟩) 4 4) _ ?_ ?_ HR5.out ?_); (· rfl); (· rfl))
  refine (ref_rw (some ⟨g5, 0, none⟩) 12 c5 (head12 gen len cv) w5 (rw_own O5.out (by omega)) (head12_lt _ _ _)).mono ?_
  rintro e w6 ⟨rfl, rfl⟩
  have hc33 := crc_lt _ _ (head12_lt gen len cv)
  generalize hcv2 : crc (head12 gen len cv) 12 = cv2 at *
  have HCV2 := hide hcv2
  clear hcv2
  go_wp2_with fail
  refine (four_eq cv2 _ hc33).mono ?_
  rintro e w7 ⟨rfl, rfl⟩
  obtain ⟨g7, c7, w7, hr7, ho7, hk7, hg7⟩ := run_join (n := 12) (m := 4) (four cv2) w6.heap.size rfl O5.out (by omega) (by omega)
  have HR7 := hide hr7
  have B7 : Hid (Below w.heap.size w w7) := B5.out.trans (hk7.below _ B5.out.size (fun b e => by have := G5.out; omega))
  have O7 : Hid (w7.ownsRow 0 5 1 (.slice (some ⟨g7, 0, none⟩) 16 c7) 16 (valsOf (head16 gen len cv) 16)) := by
    show w7.ownsRow 0 5 1 (.slice (some ⟨g7, 0, none⟩) 16 c7) 16 (valsOf (cat (head12 gen len cv) 12 (four (crc (head12 gen len cv) 12))) 16)
    rw [HCV2.out]
    exact ho7
  clear hr7 ho7 hk7 hg7 O5 HR5 G3 B3
  go_wp2_with ((with_reducible refine wpl_append _ _ 37 (.slice (some ⟨g5, 0, none⟩) 12 c5) (.slice (some ⟨w6.heap.size, 0, none⟩) 4 4) _ ?_ ?_ HR7.out ?_); (· rfl); (· rfl))
  refine (fill_eq (some ⟨g7, 0, none⟩) 16 c7 (head16 gen len cv) w7 (by omega) (rw_own O7.out (by omega))).mono ?_
  rintro e w8 ⟨rfl, rfl⟩
  go_wp2
  have P0 : Hid (PagesIn ((w7.alloc (.cells (valsOf (fill (head16 gen len cv) 16) 64).toArray 5)).alloc (.cells #[.slice (some ⟨w7.heap.size, 0, none⟩) 64 64] 37)) w.heap.size (.slice (some ⟨w7.heap.size + 1, 0, none⟩) 1 1) (1 + 0) (ent gen f len) ∧
      Below w.heap.size w ((w7.alloc (.cells (valsOf (fill (head16 gen len cv) 16) 64).toArray 5)).alloc (.cells #[.slice (some ⟨w7.heap.size, 0, none⟩) 64 64] 37))) :=
    ⟨pages_one w7 w.heap.size _ rfl B7.out.size _ _ (fun j _ => by show _ = fill (head16 gen len (crc f len)) 16 j; rw [HCV.out]), (B7.out.trans (below_le ((Below.refl _ _).alloc (Nat.le_refl _) _) B7.out.size)).trans (below_le ((Below.refl _ _).alloc (Nat.le_refl _) _) (by simp; have := B7.out.size; omega))⟩
  clear B7 O7 HR7 B5 G5
  go_loopw [6, 7] (fun o ii wq => ∃ k q : Nat, q = k * 64 ∧ k ≤ (len + 63) / 64 ∧ ii = .int .i64 q ∧ Hid (PagesIn wq w.heap.size o (1 + k) (ent gen f len) ∧ Below w.heap.size w wq)) (fun _ ii _ => len + 64 - (intOf ii).toNat)
  case atStart => exact ⟨0, 0, rfl, Nat.zero_le _, rfl, P0⟩
  case round =>
    clear P0
    obtain ⟨k, q, hq, hkk, rfl, hp⟩ := hrel
    by_cases hlt : q < len
    · obtain ⟨b, off, rfl, hc⟩ := H.out.2 (by omega)
      have hq0 : (0 : Int) ≤ (q : Int) := Int.natCast_nonneg _
      have hq1 : (q : Int) < (len : Int) := by omega
      have hq2 : (q : Int) < (cap : Int) := by omega
      have hq3 : (len : Int) ≤ (cap : Int) := by omega
      have HQ := hide hq
      have HC2 := hide hc
      clear hq hc
      by_cases hend : len < q + 64
      · have he1 : (len : Int) < (q : Int) + 64 := by omega
        have hrq : Rw wr (some ⟨b, off + q, none⟩) (len - q) (fun j => f (q + j)) := ⟨by unfold maxLen; omega, fun _ => ⟨b, off + q, rfl, fun j hj => by
          rw [Nat.add_assoc, (Keeps.of_below hp.out.2 (fun _ => False)).cell _ (World.block_lt_of_cell? w _ (HC2.out (q + j) (by omega))) (fun h => h)]
          exact HC2.out (q + j) (by omega)⟩⟩
        have HRQ := hide hrq
        clear hrq
        obtain ⟨g9, c9, w9, hr9, hp9, hb9⟩ := run_pages hp.out.1 (by omega) wr.heap.size rfl hp.out.2.size (fill (fun j => f (q + j)) (len - q)) (fun j hj => by
          rw [Nat.add_comm 1 k]
          show _ = fill (fun j => f (k * 64 + j)) (len - k * 64) j
          rw [← HQ.out])
        have HR9 := hide hr9
        have HP9 : Hid (PagesIn w9 w.heap.size (.slice (some ⟨g9, 0, none⟩) (1 + k + 1) c9) (1 + (k + 1)) (ent gen f len) ∧ Below w.heap.size w w9) := ⟨hp9, hp.out.2.trans hb9⟩
        clear hr9 hp9 hb9
        go_wp2_with fail
        refine (fill_eq (some ⟨b, off + q, none⟩) (len - q) (cap - q) (fun j => f (q + j)) wr (by omega) HRQ.out).mono ?_
        rintro e w8 ⟨rfl, rfl⟩
        go_wp2_with ((with_reducible refine wpl_append _ _ 29 _ (.slice (some ⟨wr.heap.size + 1, 0, none⟩) 1 1) _ ?_ ?_ HR9.out ?_); (· rfl); (· rfl))
        go_wp2
        exact ⟨⟨k + 1, q + 64, by have := HQ.out; omega, by have := HQ.out; omega, by go_num, HP9⟩, by simp [intOf]; omega⟩
      · have he1 : ¬ (len : Int) < (q : Int) + 64 := by omega
        have hrq : Rw wr (some ⟨b, off + q, none⟩) 64 (fun j => f (q + j)) := ⟨by unfold maxLen; omega, fun _ => ⟨b, off + q, rfl, fun j hj => by
          rw [Nat.add_assoc, (Keeps.of_below hp.out.2 (fun _ => False)).cell _ (World.block_lt_of_cell? w _ (HC2.out (q + j) (by omega))) (fun h => h)]
          exact HC2.out (q + j) (by omega)⟩⟩
        have HRQ := hide hrq
        clear hrq
        obtain ⟨g9, c9, w9, hr9, hp9, hb9⟩ := run_pages hp.out.1 (by omega) wr.heap.size rfl hp.out.2.size (fill (fun j => f (q + j)) 64) (fun j hj => by
          rw [Nat.add_comm 1 k]
          show _ = fill (fun j => f (k * 64 + j)) (len - k * 64) j
          rw [← HQ.out]
          unfold fill; rw [if_pos hj, if_pos (by omega)])
        have HR9 := hide hr9
        have HP9 : Hid (PagesIn w9 w.heap.size (.slice (some ⟨g9, 0, none⟩) (1 + k + 1) c9) (1 + (k + 1)) (ent gen f len) ∧ Below w.heap.size w w9) := ⟨hp9, hp.out.2.trans hb9⟩
        clear hr9 hp9 hb9
        go_wp2_with fail
        refine (fill_eq (some ⟨b, off + q, none⟩) 64 (cap - q) (fun j => f (q + j)) wr (by omega) HRQ.out).mono ?_
        rintro e w8 ⟨rfl, rfl⟩
        go_wp2_with ((with_reducible refine wpl_append _ _ 29 _ (.slice (some ⟨wr.heap.size + 1, 0, none⟩) 1 1) _ ?_ ?_ HR9.out ?_); (· rfl); (· rfl))
        go_wp2
        exact ⟨⟨k + 1, q + 64, by have := HQ.out; omega, by have := HQ.out; omega, by go_num, HP9⟩, by simp [intOf]; omega⟩
    · have hq1 : ¬ (q : Int) < (len : Int) := by omega
      have hkn : 1 + k = cnt len := by unfold cnt; omega
      have HK := hide hkn
      clear hq hkn
      go_wp2
      go_ret
      have h1 := hp.out.1
      rw [HK.out] at h1
      exact ⟨_, rfl, h1, hp.out.2⟩
end Go.Proofs.Ytbecchoidglaeaa
