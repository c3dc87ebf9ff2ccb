/- The document's Sectors: an entry's pages. -/
import Derived.Test.YtbecchoidglaeaaGRFoot
import Derived.Test.YtbecchoidglaeaaGEnt
import Derived.Test.YtbecchoidglaeaaGRDisk
namespace Go.Proofs.Ytbecchoidglaeaa
open Go.RowKit
set_option maxRecDepth 100000

/-- A row of n pages F, all new since B. -/
def PagesIn (w : World) (B : Nat) (v : Value) (n : Nat) (F : Nat → Nat → Nat) : Prop :=
  ∃ pgs, w.ownsRow B 37 1 v n pgs ∧ ∀ i, i < n → ∃ u, pgs[i]? = some u ∧ PageAt w (fun b => B ≤ b ∧ v.ownBlock ≠ some b) u (F i)
theorem rw_own {w : World} {g n c : Nat} {f : Nat → Nat} (h : w.ownsRow 0 5 1 (.slice (some ⟨g, 0, none⟩) n c) n (valsOf f n)) (hn : n ≤ 100000) : Rw w (some ⟨g, 0, none⟩) n f :=
  ⟨by unfold maxLen; omega, fun _ => ⟨g, 0, rfl, fun j hj => by rw [Nat.zero_add, h.cellAt j (by omega), valsOf_get _ _ _ hj]⟩⟩
theorem own_lit (w : World) (f : Nat → Nat) (n : Nat) (hn : n ≤ 100000) : (w.alloc (.cells (valsOf f n).toArray 5)).ownsRow 0 5 1 (.slice (some ⟨w.heap.size, 0, none⟩) n n) n (valsOf f n) := by
  have := World.ownsRow_lit (base := 0) (e := 5) (size := 1) w (valsOf f n).toArray n (Nat.zero_le _) (by unfold maxLen; omega) (by simp [valsOf_length])
  simpa using this
/-- Two more bytes rows joined: append of a row of the call's own and a new one. -/
theorem run_join {w : World} {g0 c0 n m : Nat} {f : Nat → Nat} (e : Nat → Nat) (H : Nat) (hH : w.heap.size = H) (h : w.ownsRow 0 5 1 (.slice (some ⟨g0, 0, none⟩) n c0) n (valsOf f n)) (hn : n ≤ 1000) (hm : m ≤ 1000) :
    ∃ g1 c1 w1, (Builtin.append_ #[37, 37] 37 #[.slice (some ⟨g0, 0, none⟩) n c0, .slice (some ⟨H, 0, none⟩) m m]).run Try.prog (w.alloc (.cells (valsOf e m).toArray 5)) = .ok (.slice (some ⟨g1, 0, none⟩) (n + m) c1) w1 ∧
      w1.ownsRow 0 5 1 (.slice (some ⟨g1, 0, none⟩) (n + m) c1) (n + m) (valsOf (cat f n e) (n + m)) ∧ Keeps (fun b => b = g0) w w1 ∧ (g1 = g0 ∨ H ≤ g1) := by
  subst hH
  obtain ⟨g1, c1, w1, hr, ho, hk, hat⟩ := run_append_in (w.alloc (.cells (valsOf e m).toArray 5)) g0 c0 n (valsOf f n) (h.alloc _) (some ⟨w.heap.size, 0, none⟩) m m e (rw_new w e m (by omega) _) (fun h => by cases h) (by omega)
  rw [vals_cat] at ho
  refine ⟨g1, c1, w1, hr, ho, Keeps.trans ((Keeps.refl _ w).alloc _) hk (fun b _ e => e), ?_⟩
  rcases hat with h1 | h1
  · exact .inl h1
  · exact .inr (by rw [h1]; simp)

theorem page_new (w : World) (p : Nat → Nat) (Q : Nat → Prop) (hQ : Q w.heap.size) : PageAt (w.alloc (.cells (valsOf p 64).toArray 5)) Q (.slice (some ⟨w.heap.size, 0, none⟩) 64 64) p :=
  page_of_rw (rw_new w p 64 (by omega) _) hQ (Nat.le_refl _)
theorem pages_one (w : World) (B H : Nat) (hH : w.heap.size = H) (hB : B ≤ H) (F : Nat → Nat → Nat) (p : Nat → Nat) (hp : ∀ j, j < 64 → p j = F 0 j) :
    PagesIn ((w.alloc (.cells (valsOf p 64).toArray 5)).alloc (.cells #[.slice (some ⟨H, 0, none⟩) 64 64] 37)) B (.slice (some ⟨H + 1, 0, none⟩) 1 1) 1 F := by
  subst hH
  have ho := World.ownsRow_lit (base := B) (e := 37) (size := 1) (w.alloc (.cells (valsOf p 64).toArray 5)) #[.slice (some ⟨w.heap.size, 0, none⟩) 64 64] 1 (by simp; omega) (by unfold maxLen; omega) rfl
  rw [World.size_alloc] at ho
  refine ⟨_, ho, fun i hi => ?_⟩
  obtain rfl : i = 0 := by omega
  exact ⟨_, rfl, ((page_new w p _ ⟨hB, by simp [Value.ownBlock]⟩).keeps (G := fun _ => False) ((Keeps.refl _ _).alloc _) (fun _ _ h => h)).congr hp⟩
theorem run_pages {w : World} {B : Nat} {v : Value} {n : Nat} {F : Nat → Nat → Nat} (h : PagesIn w B v n F) (hn : n ≤ 100000) (H : Nat) (hH : w.heap.size = H) (hB : B ≤ H) (p : Nat → Nat) (hp : ∀ j, j < 64 → p j = F n j) :
    ∃ g c w1, (Builtin.append_ #[29, 29] 29 #[v, .slice (some ⟨H + 1, 0, none⟩) 1 1]).run Try.prog ((w.alloc (.cells (valsOf p 64).toArray 5)).alloc (.cells #[.slice (some ⟨H, 0, none⟩) 64 64] 37)) = .ok (.slice (some ⟨g, 0, none⟩) (n + 1) c) w1 ∧
      PagesIn w1 B (.slice (some ⟨g, 0, none⟩) (n + 1) c) (n + 1) F ∧ Below B w w1 := by
  subst hH
  obtain ⟨pgs, ho, hpg⟩ := h
  obtain ⟨i0, hi0, hz0, hz1, hz2⟩ := info_parts Try.info37
  have hs1 : ((w.alloc (.cells (valsOf p 64).toArray 5)).alloc (.cells #[.slice (some ⟨w.heap.size, 0, none⟩) 64 64] 37)).heap.size = w.heap.size + 1 + 1 := by simp
  obtain ⟨g, c, w1, hr, ho1, hgr, hat, hlt⟩ := run_append_lies (P := Try.prog) ((w.alloc (.cells (valsOf p 64).toArray 5)).alloc (.cells #[.slice (some ⟨w.heap.size, 0, none⟩) 64 64] 37)) 29 29 B 37 i0 _ 1 24 Try.underlying29 hi0 hz0 hz1 hz2 rfl (by omega) v n pgs ((ho.alloc _).alloc _)
    ⟨w.heap.size + 1, 0, none⟩ 1 1 [.slice (some ⟨w.heap.size, 0, none⟩) 64 64] rfl (World.news_of_block (cs := #[.slice (some ⟨w.heap.size, 0, none⟩) 64 64]) (t := 37) (fr := (0, 0)) (by have := heap_alloc_new (w.alloc (.cells (valsOf p 64).toArray 5)) (.cells #[.slice (some ⟨w.heap.size, 0, none⟩) 64 64] 37); rw [World.size_alloc] at this; exact this)) (by simp [Value.oneCell']) (by omega) (by unfold maxLen; omega) (by omega) (by rw [hs1]; omega) _ hs1
  have kk : Keeps (fun b => v.ownBlock = some b) w w1 := (((Keeps.refl _ w).alloc _).alloc _).grown hgr (fun b e => .inl e)
  have hvl := fun b e => ho.lt b e
  have hgn : g ≠ w.heap.size := fun e => by
    rcases hat with h1 | h1
    · have := (hvl g h1).2; omega
    · omega
  have hsz : w.heap.size + 1 + 1 ≤ w1.heap.size := by have := hgr.size; rw [hs1] at this; exact this
  refine ⟨g, c, w1, hr, ⟨_, ho1, fun i hi => ?_⟩, kk.below B hB (fun b e => (hvl b e).1)⟩
  have hlen : pgs.length = n := by have := ho.1; omega
  by_cases e : i < n
  · obtain ⟨u, hu, hpu⟩ := hpg i e
    refine ⟨u, by rw [List.getElem?_append_left (by omega)]; exact hu, ?_⟩
    obtain ⟨b, off, cap, rfl, hc, hb, hf⟩ := hpu.keeps kk (fun b hb e => hb.2 e)
    refine ⟨b, off, cap, rfl, hc, ⟨hb.1, fun e2 => ?_⟩, hf⟩
    simp [Value.ownBlock] at e2
    subst e2
    have hblt : g < w.heap.size := by
      obtain ⟨b', off', cap', e3, _, _, hf'⟩ := hpu
      injection e3 with e3 _ _
      injection e3 with e3
      injection e3 with e3 _ _
      subst e3
      exact World.block_lt_of_cell? w _ (hf' 0 (by omega))
    rcases hat with h1 | h1
    · exact hb.2 h1
    · omega
  · have : i = n := by omega
    subst this
    refine ⟨.slice (some ⟨w.heap.size, 0, none⟩) 64 64, by rw [List.getElem?_append_right (by omega), hlen]; simp, ?_⟩
    have hrow : v.ownBlock ≠ some w.heap.size := fun e => by have := (hvl _ e).2; omega
    have p1 := (page_new w p (fun b => b = w.heap.size) rfl).keeps (G := fun _ => False) ((Keeps.refl _ _).alloc (.cells #[.slice (some ⟨w.heap.size, 0, none⟩) 64 64] 37)) (fun _ _ h => h)
    have p2 := p1.keeps ((Keeps.refl _ _).grown hgr (F := fun b => v.ownBlock = some b) (fun b e => .inl e)) (fun b hb e => by subst hb; exact hrow e)
    exact (p2.mono (fun b hb => by subst hb; exact ⟨hB, by simp [Value.ownBlock]; exact hgn⟩)).congr hp

set_option maxRecDepth 100000 in
set_option maxHeartbeats 1600000 in
theorem sectors_any (gen : Nat) (hg : gen < 4294967296) (a : Option Addr) (len cap : Nat) (f : Nat → Nat) (w : World) (h : Rw w a len f) (hf : ∀ i, i < len → f i < 256) (hl : len ≤ 100000) (hcap : len ≤ cap) :
    Calls Try.prog 26 #[.int .i64 (gen : Int), .slice a len cap] w fun e w' => ∃ v, e = .returned v ∧ PagesIn w' w.heap.size v (cnt len) (ent gen f len) ∧ Below w.heap.size w w' := by
  have H := hide h
  have HF := hide hf
  have HC := hide (crc_lt f len hf)
  clear h hf
  go_enter Try.func26, Try.ntmps26
  go_wp2_with fail
  refine (four_eq gen _ hg).mono ?_
  rintro e w1 ⟨rfl, rfl⟩
  go_wp2_with fail
  refine (four_eq len _ (by omega)).mono ?_
  rintro e w2 ⟨rfl, rfl⟩
  obtain ⟨g3, c3, w3, hr3, ho3, hk3, hg3⟩ := run_join (m := 4) (four len) (w.heap.size + 1) (by simp) (own_lit w (four gen) 4 (by omega)) (by omega) (by omega)
  have HR3 := hide hr3
  have B3 : Hid (Below w.heap.size w w3) := ((Keeps.refl (fun b => w.heap.size ≤ b) w).alloc _ |>.trans (hk3.mono (G := fun b => w.heap.size ≤ b) (fun b _ e => by omega)) (fun _ _ h => h)).below _ (Nat.le_refl _) (fun _ h => h)
  have O3 := hide ho3
  have G3 : Hid (w.heap.size ≤ g3) := by show w.heap.size ≤ g3; omega
  clear hr3 ho3 hk3 hg3
  go_wp2_with ((with_reducible refine wpl_append _ _ 37 (.slice (some ⟨w.heap.size, 0, none⟩) 4 4) (.slice (some ⟨w.heap.size + 1, 0, none⟩) 4 4) _ ?_ ?_ HR3.out ?_); (· rfl); (· rfl))
  refine (ref_rw a len cap f w3 (H.out.below B3.out) HF.out).mono ?_
  rintro e w4 ⟨rfl, rfl⟩
  have hc32 := HC.out
  generalize hcv : crc f len = cv at *
  have HCV := hide hcv
  clear hcv HC
  go_wp2_with fail
  refine (four_eq cv _ hc32).mono ?_
  rintro e w5 ⟨rfl, rfl⟩
  obtain ⟨g5, c5, w5, hr5, ho5, hk5, hg5⟩ := run_join (n := 8) (m := 4) (four cv) w4.heap.size rfl O3.out (by omega) (by omega)
  have HR5 := hide hr5
  have B5 : Hid (Below w.heap.size w w5) := B3.out.trans (hk5.below _ B3.out.size (fun b e => by have := G3.out; omega))
  have O5 : Hid (w5.ownsRow 0 5 1 (.slice (some ⟨g5, 0, none⟩) 12 c5) 12 (valsOf (head12 gen len cv) 12)) := ho5
  have G5 : Hid (w.heap.size ≤ g5) := by have := G3.out; have := B3.out.size; show w.heap.size ≤ g5; omega
  clear hr5 ho5 hk5 hg5 O3 HR3
  go_wp2_with ((with_reducible refine wpl_append _ _ 37 (.slice (some ⟨g3, 0, none⟩) 8 c3) (.slice (some ⟨w4.heap.size, 0, none⟩) 4 4) _ ?_ ?_ HR5.out ?_); (· rfl); (· rfl))
  refine (ref_rw (some ⟨g5, 0, none⟩) 12 c5 (head12 gen len cv) w5 (rw_own O5.out (by omega)) (head12_lt _ _ _)).mono ?_
  rintro e w6 ⟨rfl, rfl⟩
  have hc33 := crc_lt _ _ (head12_lt gen len cv)
  generalize hcv2 : crc (head12 gen len cv) 12 = cv2 at *
  have HCV2 := hide hcv2
  clear hcv2
  go_wp2_with fail
  refine (four_eq cv2 _ hc33).mono ?_
  rintro e w7 ⟨rfl, rfl⟩
  obtain ⟨g7, c7, w7, hr7, ho7, hk7, hg7⟩ := run_join (n := 12) (m := 4) (four cv2) w6.heap.size rfl O5.out (by omega) (by omega)
  have HR7 := hide hr7
  have B7 : Hid (Below w.heap.size w w7) := B5.out.trans (hk7.below _ B5.out.size (fun b e => by have := G5.out; omega))
  have O7 : Hid (w7.ownsRow 0 5 1 (.slice (some ⟨g7, 0, none⟩) 16 c7) 16 (valsOf (head16 gen len cv) 16)) := by
    show w7.ownsRow 0 5 1 (.slice (some ⟨g7, 0, none⟩) 16 c7) 16 (valsOf (cat (head12 gen len cv) 12 (four (crc (head12 gen len cv) 12))) 16)
    rw [HCV2.out]
    exact ho7
  clear hr7 ho7 hk7 hg7 O5 HR5 G3 B3
  go_wp2_with ((with_reducible refine wpl_append _ _ 37 (.slice (some ⟨g5, 0, none⟩) 12 c5) (.slice (some ⟨w6.heap.size, 0, none⟩) 4 4) _ ?_ ?_ HR7.out ?_); (· rfl); (· rfl))
  refine (fill_eq (some ⟨g7, 0, none⟩) 16 c7 (head16 gen len cv) w7 (by omega) (rw_own O7.out (by omega))).mono ?_
  rintro e w8 ⟨rfl, rfl⟩
  go_wp2
  have P0 : Hid (PagesIn ((w7.alloc (.cells (valsOf (fill (head16 gen len cv) 16) 64).toArray 5)).alloc (.cells #[.slice (some ⟨w7.heap.size, 0, none⟩) 64 64] 37)) w.heap.size (.slice (some ⟨w7.heap.size + 1, 0, none⟩) 1 1) (1 + 0) (ent gen f len) ∧
      Below w.heap.size w ((w7.alloc (.cells (valsOf (fill (head16 gen len cv) 16) 64).toArray 5)).alloc (.cells #[.slice (some ⟨w7.heap.size, 0, none⟩) 64 64] 37))) :=
    ⟨pages_one w7 w.heap.size _ rfl B7.out.size _ _ (fun j _ => by show _ = fill (head16 gen len (crc f len)) 16 j; rw [HCV.out]), (B7.out.trans (below_le ((Below.refl _ _).alloc (Nat.le_refl _) _) B7.out.size)).trans (below_le ((Below.refl _ _).alloc (Nat.le_refl _) _) (by simp; have := B7.out.size; omega))⟩
  clear B7 O7 HR7 B5 G5
  go_loopw [6, 7] (fun o ii wq => ∃ k q : Nat, q = k * 64 ∧ k ≤ (len + 63) / 64 ∧ ii = .int .i64 q ∧ Hid (PagesIn wq w.heap.size o (1 + k) (ent gen f len) ∧ Below w.heap.size w wq)) (fun _ ii _ => len + 64 - (intOf ii).toNat)
  case atStart => exact ⟨0, 0, rfl, Nat.zero_le _, rfl, P0⟩
  case round =>
    clear P0
    obtain ⟨k, q, hq, hkk, rfl, hp⟩ := hrel
    by_cases hlt : q < len
    · obtain ⟨b, off, rfl, hc⟩ := H.out.2 (by omega)
      have hq0 : (0 : Int) ≤ (q : Int) := Int.natCast_nonneg _
      have hq1 : (q : Int) < (len : Int) := by omega
      have hq2 : (q : Int) < (cap : Int) := by omega
      have hq3 : (len : Int) ≤ (cap : Int) := by omega
      have HQ := hide hq
      have HC2 := hide hc
      clear hq hc
      by_cases hend : len < q + 64
      · have he1 : (len : Int) < (q : Int) + 64 := by omega
        have hrq : Rw wr (some ⟨b, off + q, none⟩) (len - q) (fun j => f (q + j)) := ⟨by unfold maxLen; omega, fun _ => ⟨b, off + q, rfl, fun j hj => by
          rw [Nat.add_assoc, (Keeps.of_below hp.out.2 (fun _ => False)).cell _ (World.block_lt_of_cell? w _ (HC2.out (q + j) (by omega))) (fun h => h)]
          exact HC2.out (q + j) (by omega)⟩⟩
        have HRQ := hide hrq
        clear hrq
        obtain ⟨g9, c9, w9, hr9, hp9, hb9⟩ := run_pages hp.out.1 (by omega) wr.heap.size rfl hp.out.2.size (fill (fun j => f (q + j)) (len - q)) (fun j hj => by
          rw [Nat.add_comm 1 k]
          show _ = fill (fun j => f (k * 64 + j)) (len - k * 64) j
          rw [← HQ.out])
        have HR9 := hide hr9
        have HP9 : Hid (PagesIn w9 w.heap.size (.slice (some ⟨g9, 0, none⟩) (1 + k + 1) c9) (1 + (k + 1)) (ent gen f len) ∧ Below w.heap.size w w9) := ⟨hp9, hp.out.2.trans hb9⟩
        clear hr9 hp9 hb9
        go_wp2_with fail
        refine (fill_eq (some ⟨b, off + q, none⟩) (len - q) (cap - q) (fun j => f (q + j)) wr (by omega) HRQ.out).mono ?_
        rintro e w8 ⟨rfl, rfl⟩
        go_wp2_with ((with_reducible refine wpl_append _ _ 29 _ (.slice (some ⟨wr.heap.size + 1, 0, none⟩) 1 1) _ ?_ ?_ HR9.out ?_); (· rfl); (· rfl))
        go_wp2
        exact ⟨⟨k + 1, q + 64, by have := HQ.out; omega, by have := HQ.out; omega, by go_num, HP9⟩, by simp [intOf]; omega⟩
      · have he1 : ¬ (len : Int) < (q : Int) + 64 := by omega
        have hrq : Rw wr (some ⟨b, off + q, none⟩) 64 (fun j => f (q + j)) := ⟨by unfold maxLen; omega, fun _ => ⟨b, off + q, rfl, fun j hj => by
          rw [Nat.add_assoc, (Keeps.of_below hp.out.2 (fun _ => False)).cell _ (World.block_lt_of_cell? w _ (HC2.out (q + j) (by omega))) (fun h => h)]
          exact HC2.out (q + j) (by omega)⟩⟩
        have HRQ := hide hrq
        clear hrq
        obtain ⟨g9, c9, w9, hr9, hp9, hb9⟩ := run_pages hp.out.1 (by omega) wr.heap.size rfl hp.out.2.size (fill (fun j => f (q + j)) 64) (fun j hj => by
          rw [Nat.add_comm 1 k]
          show _ = fill (fun j => f (k * 64 + j)) (len - k * 64) j
          rw [← HQ.out]
          unfold fill; rw [if_pos hj, if_pos (by omega)])
        have HR9 := hide hr9
        have HP9 : Hid (PagesIn w9 w.heap.size (.slice (some ⟨g9, 0, none⟩) (1 + k + 1) c9) (1 + (k + 1)) (ent gen f len) ∧ Below w.heap.size w w9) := ⟨hp9, hp.out.2.trans hb9⟩
        clear hr9 hp9 hb9
        go_wp2_with fail
        refine (fill_eq (some ⟨b, off + q, none⟩) 64 (cap - q) (fun j => f (q + j)) wr (by omega) HRQ.out).mono ?_
        rintro e w8 ⟨rfl, rfl⟩
        go_wp2_with ((with_reducible refine wpl_append _ _ 29 _ (.slice (some ⟨wr.heap.size + 1, 0, none⟩) 1 1) _ ?_ ?_ HR9.out ?_); (· rfl); (· rfl))
        go_wp2
        exact ⟨⟨k + 1, q + 64, by have := HQ.out; omega, by have := HQ.out; omega, by go_num, HP9⟩, by simp [intOf]; omega⟩
    · have hq1 : ¬ (q : Int) < (len : Int) := by omega
      have hkn : 1 + k = cnt len := by unfold cnt; omega
      have HK := hide hkn
      clear hq hkn
      go_wp2
      go_ret
      have h1 := hp.out.1
      rw [HK.out] at h1
      exact ⟨_, rfl, h1, hp.out.2⟩
end Go.Proofs.Ytbecchoidglaeaa
/- The document's Lay. -/
namespace Go.Proofs.Ytbecchoidglaeaa
open Go.RowKit
set_option maxRecDepth 100000

theorem RStep.trans {W P W1 P1 W2 P2 : Nat → Prop} {w w1 w2 : World} (h : RStep W P W1 P1 w w1) (k : RStep W1 P1 W2 P2 w1 w2) : RStep W P W2 P2 w w2 := by
  have hs := h.1.size
  refine ⟨h.1.trans k.1 (fun b hb hw => by rcases h.2.1 b hw with h1 | h1; exact h1; omega), fun b hb => ?_, fun b hb => ?_⟩
  · rcases k.2.1 b hb with h1 | h1
    · exact h.2.1 b h1
    · exact .inr (by omega)
  · rcases k.2.2 b hb with h1 | h1
    · exact h.2.2 b h1
    · exact .inr (by omega)
theorem RStep.of_below {W P : Nat → Prop} {w w' : World} (h : Below w.heap.size w w') : RStep W P W P w w' := ⟨Keeps.of_below h _, fun _ hb => .inl hb, fun _ hb => .inl hb⟩
theorem RDisk.later {w w' : World} {V : Nat} {s : St} {W P : Nat → Prop} (h : RDisk w V s W P) (hb : Below w.heap.size w w') : RDisk w' V s W P := h.keeps (G := fun _ => False) (Keeps.of_below hb _) (fun _ _ h => h) (fun _ _ h => h)

section
variable {w : World} {V : Nat} {s : St} {W P : Nat → Prop}
set_option maxHeartbeats 400000 in
theorem rend_any (h : RDisk w V s W P) (e : Int) : Calls Try.prog 67 #[.pointer (some ⟨V, 0, none⟩), .int .i64 e] w fun r w' => r = .returned (.int .i64 (min e (s.n : Int))) ∧ w' = w := by
  obtain ⟨a, cap, c0, _⟩ := h.sectors
  clear h
  by_cases he : (s.n : Int) < e
  · go_enter Try.func67, Try.ntmps67
    go_wp2
    go_ret
    exact ⟨ret_int (by omega), rfl⟩
  · go_enter Try.func67, Try.ntmps67
    go_wp2
    go_ret
    exact ⟨ret_int (by omega), rfl⟩
/-- Write, of either kind. -/
theorem rdisk_wr (h : RDisk w V s W P) (i : Int) (hi0 : 0 ≤ i) (hi : i < s.n) (a : Option Addr) (len cap : Nat) (f : Nat → Nat) (hl : len ≤ 64) (hm : s.lo.length < 1000000) (hr : Rw w a len f) (ha : ∀ x, a = some x → 0 < len → x.block ≠ V) :
    Calls Try.prog 43 #[.pointer (some ⟨V, 0, none⟩), .int .i64 i, .slice a len cap] w fun e w' =>
      e = .returned (.int .i64 ((s.wr i.toNat (fill f len)).2 : Int)) ∧ ∃ W' P', RDisk w' V (s.wr i.toNat (fill f len)).1 W' P' ∧ RStep W P W' P' w w' := by
  unfold St.wr
  cases hp : s.power with
  | true => simpa using rdisk_write h i hi0 hi a len cap f hl hp hm hr ha
  | false => simpa using rdisk_write_down h i hi0 hi a len cap hl hp
/-- Flush, of either kind. -/
theorem rdisk_fl (h : RDisk w V s W P) : Calls Try.prog 44 #[.pointer (some ⟨V, 0, none⟩)] w fun e w' =>
      e = .returned (.int .i64 (s.fl.2 : Int)) ∧ ∃ W' P', RDisk w' V s.fl.1 W' P' ∧ RStep W P W' P' w w' := by
  unfold St.fl
  cases hp : s.power with
  | true => simpa using rdisk_flush h hp
  | false => simpa using rdisk_flush_down h hp
end
/-- A row of n pages F between the blocks B and B1. -/
def Sheets (w : World) (B B1 : Nat) (v : Value) (n : Nat) (F : Nat → Nat → Nat) : Prop :=
  ∃ g c pgs, v = .slice (some ⟨g, 0, none⟩) n c ∧ B ≤ g ∧ g < B1 ∧ w.ownsRow 0 37 1 v n pgs ∧ ∀ i, i < n → ∃ u, pgs[i]? = some u ∧ PageAt w (fun b => B ≤ b ∧ b < B1) u (F i)
theorem PagesIn.sheets {w : World} {B n : Nat} {v : Value} {F : Nat → Nat → Nat} (h : PagesIn w B v n F) (hn : 0 < n) : Sheets w B w.heap.size v n F := by
  obtain ⟨pgs, ho, hp⟩ := h
  obtain ⟨g, c, rfl, hg, hlt⟩ := ho.form hn
  refine ⟨g, c, pgs, rfl, hg, hlt, ⟨ho.1, ?_⟩, fun i hi => ?_⟩
  · rcases ho.2 with h1 | ⟨g', c', cur, e, _, rest⟩
    · exact .inl h1
    · exact .inr ⟨g', c', cur, e, Nat.zero_le _, rest⟩
  · obtain ⟨u, hu, b, off, cap, e, hc, hb, hf⟩ := hp i hi
    exact ⟨u, hu, b, off, cap, e, hc, ⟨hb.1, World.block_lt_of_cell? w _ (hf 0 (by omega))⟩, hf⟩
theorem Sheets.keeps {w w' : World} {B B1 n : Nat} {v : Value} {F : Nat → Nat → Nat} (h : Sheets w B B1 v n F) {G : Nat → Prop} (hk : Keeps G w w') (hG : ∀ b, B ≤ b → b < B1 → ¬ G b) : Sheets w' B B1 v n F := by
  obtain ⟨g, c, pgs, rfl, hg, hlt, ho, hp⟩ := h
  refine ⟨g, c, pgs, rfl, hg, hlt, own_keeps ho hk (fun b e => by simp [Value.ownBlock] at e; subst e; exact hG _ hg hlt), fun i hi => ?_⟩
  obtain ⟨u, hu, hpu⟩ := hp i hi
  exact ⟨u, hu, hpu.keeps hk (fun b hb => hG b hb.1 hb.2)⟩
theorem Sheets.at {w : World} {B B1 n : Nat} {v : Value} {F : Nat → Nat → Nat} (h : Sheets w B B1 v n F) : ∃ g c, v = .slice (some ⟨g, 0, none⟩) n c ∧ ∀ i, i < n → ∃ b off cap, w.cell? ⟨g, i, none⟩ = some (.slice (some ⟨b, off, none⟩) 64 cap) ∧ Rw w (some ⟨b, off, none⟩) 64 (F i) ∧ B ≤ b ∧ b < B1 := by
  obtain ⟨g, c, pgs, rfl, hg, hlt, ho, hp⟩ := h
  refine ⟨g, c, rfl, fun i hi => ?_⟩
  obtain ⟨u, hu, b, off, cap, rfl, _, hb, hf⟩ := hp i hi
  exact ⟨b, off, cap, by rw [ho.cellAt i (by omega)]; exact hu, ⟨by unfold maxLen; omega, fun _ => ⟨b, off, rfl, hf⟩⟩, hb.1, hb.2⟩
end Go.Proofs.Ytbecchoidglaeaa
/- The document's Lay: the walk. -/
namespace Go.Proofs.Ytbecchoidglaeaa
open Go.RowKit
set_option maxRecDepth 100000

/-- The disk is s now, and the entry's pages are there. -/
def LayAt (w wq : World) (V : Nat) (s : St) (W P : Nat → Prop) (B B1 : Nat) (v : Value) (n : Nat) (F : Nat → Nat → Nat) : Prop :=
  ∃ W' P', RDisk wq V s W' P' ∧ RStep W P W' P' w wq ∧ (∀ b, W' b → b < B ∨ B1 ≤ b) ∧ Sheets wq B B1 v n F ∧ B1 ≤ wq.heap.size
theorem LayAt.step {w wq wr : World} {V : Nat} {s' : St} {W P W' P' W2 P2 : Nat → Prop} {B B1 n : Nat} {v : Value} {F : Nat → Nat → Nat} (hst : RStep W P W' P' w wq) (hW : ∀ b, W' b → b < B ∨ B1 ≤ b) (hsh : Sheets wq B B1 v n F) (hle : B1 ≤ wq.heap.size)
    (hd : RDisk wr V s' W2 P2) (h2 : RStep W' P' W2 P2 wq wr) : LayAt w wr V s' W P B B1 v n F :=
  ⟨W2, P2, hd, hst.trans h2, fun b hb => by rcases h2.2.1 b hb with h1 | h1; exact hW b h1; exact .inr (by omega), hsh.keeps h2.1 (fun b h1 h3 hw => by rcases hW b hw with h4 | h4 <;> omega), by have := h2.1.size; omega⟩
theorem lay_bad {s : St} {at_ n : Nat} {F : Nat → Nat → Nat} {S : St × Nat} (h : s.lay at_ F n = S) (hE : S.2 ≠ 0) {W P W' P' : Nat → Prop} {w w' : World} {V : Nat} (hd : RDisk w' V S.1 W' P') (hst : RStep W P W' P' w w') :
    Ending.returned (.tuple #[.int .i64 0, .int .i64 (S.2 : Int)]) = .returned (.tuple #[.int .i64 (layNext (s.lay at_ F n) at_ n), .int .i64 ((s.lay at_ F n).2 : Int)]) ∧ ∃ W' P', RDisk w' V (s.lay at_ F n).1 W' P' ∧ RStep W P W' P' w w' := by
  subst h
  unfold layNext
  rw [if_neg hE]
  exact ⟨rfl, W', P', hd, hst⟩
theorem lay_good {s : St} {at_ n : Nat} {F : Nat → Nat → Nat} {S : St × Nat} (h : s.lay at_ F n = S) (hE : S.2 = 0) {W P W' P' : Nat → Prop} {w w' : World} {V : Nat} (hd : RDisk w' V S.1 W' P') (hst : RStep W P W' P' w w') :
    Ending.returned (.tuple #[.int .i64 ((at_ : Int) + (n : Int)), .int .i64 0]) = .returned (.tuple #[.int .i64 (layNext (s.lay at_ F n) at_ n), .int .i64 ((s.lay at_ F n).2 : Int)]) ∧ ∃ W' P', RDisk w' V (s.lay at_ F n).1 W' P' ∧ RStep W P W' P' w w' := by
  subst h
  unfold layNext
  rw [if_pos hE, hE]
  exact ⟨rfl, W', P', hd, hst⟩
set_option maxHeartbeats 400000 in
theorem rlay_arg (w : World) (V : Nat) (at_ e gen : Int) (a : Option Addr) (len cap : Nat) (h : 8192 < len ∨ gen < 0 ∨ 2147483647 < gen ∨ at_ < 0) :
    Calls Try.prog 49 #[.pointer (some ⟨V, 0, none⟩), .int .i64 at_, .int .i64 e, .int .i64 gen, .slice a len cap] w fun r w' => r = .returned (.tuple #[.int .i64 0, .int .i64 1]) ∧ w' = w := by
  by_cases h1 : 8192 < len
  · have h1' : (8192 : Int) < (len : Int) := by omega
    clear h
    go_enter Try.func49, Try.ntmps49
    go_wp2
    go_ret2
    exact ⟨rfl, rfl⟩
  · have h1' : ¬ (8192 : Int) < (len : Int) := by omega
    by_cases h2 : gen < 0
    · clear h
      go_enter Try.func49, Try.ntmps49
      go_wp2
      go_ret2
      exact ⟨rfl, rfl⟩
    · by_cases h3 : 2147483647 < gen
      · clear h
        go_enter Try.func49, Try.ntmps49
        go_wp2
        go_ret2
        exact ⟨rfl, rfl⟩
      · have h4 : at_ < 0 := by omega
        clear h
        go_enter Try.func49, Try.ntmps49
        go_wp2
        go_ret2
        exact ⟨rfl, rfl⟩
set_option maxRecDepth 100000 in
set_option maxHeartbeats 1600000 in
theorem rlay_full {w : World} {V : Nat} {s : St} {W P : Nat → Prop} (h : RDisk w V s W P) (at_ gen : Nat) (e : Int) (he : -9223372036854775808 ≤ min e (s.n : Int) - (at_ : Int)) (a : Option Addr) (len cap : Nat) (f : Nat → Nat) (hg : gen ≤ 2147483647) (hat : at_ < 9223372036854775808) (hl : len ≤ 8192) (hcap : len ≤ cap)
    (hr : Rw w a len f) (hf : ∀ i, i < len → f i < 256) (hn : s.n ≤ 1024) (hroom : min e (s.n : Int) - (at_ : Int) < (cnt len : Int)) :
    Calls Try.prog 49 #[.pointer (some ⟨V, 0, none⟩), .int .i64 (at_ : Int), .int .i64 e, .int .i64 (gen : Int), .slice a len cap] w fun r w' => r = .returned (.tuple #[.int .i64 0, .int .i64 3]) ∧ Below w.heap.size w w' := by
  have H := hide h
  have HR := hide hr
  have HF := hide hf
  have HRm := hide (And.intro hroom he)
  have hl' : ¬ (8192 : Int) < (len : Int) := by omega
  have hg' : ¬ (2147483647 : Int) < (gen : Int) := by omega
  clear h hr hf hroom he
  go_enter Try.func49, Try.ntmps49
  go_wp2_with fail
  refine (sectors_any gen (by omega) a len cap f w HR.out HF.out (by omega) hcap).mono ?_
  rintro r w1 ⟨v, rfl, hpg, hb1⟩
  obtain ⟨g, c, hv, _⟩ := (hpg.sheets (by unfold cnt; omega)).at
  subst hv
  have HB := hide hb1
  have hcn : cnt len ≤ 200 := by unfold cnt; omega
  clear hpg hb1
  go_wp2_with fail
  refine (rend_any (H.out.later HB.out) e).mono ?_
  rintro r w2 ⟨rfl, rfl⟩
  obtain ⟨hroom, he⟩ := HRm.out
  have hm1 : min e (s.n : Int) ≤ 1024 := by omega
  generalize min e (s.n : Int) = m at *
  generalize cnt len = C at *
  go_wp2
  go_ret2
  exact ⟨rfl, HB.out⟩
set_option maxRecDepth 100000 in
set_option maxHeartbeats 1600000 in
theorem rlay_in {w : World} {V : Nat} {s : St} {W P : Nat → Prop} (h : RDisk w V s W P) (at_ gen : Nat) (e : Int) (a : Option Addr) (len cap : Nat) (f : Nat → Nat) (hg : gen ≤ 2147483647) (hl : len ≤ 8192) (hcap : len ≤ cap)
    (hr : Rw w a len f) (hf : ∀ i, i < len → f i < 256) (hn : s.n ≤ 1024) (hlo : s.lo.length < 900000) (hroom : (at_ : Int) + (cnt len : Int) ≤ min e (s.n : Int)) :
    Calls Try.prog 49 #[.pointer (some ⟨V, 0, none⟩), .int .i64 (at_ : Int), .int .i64 e, .int .i64 (gen : Int), .slice a len cap] w fun r w' =>
      r = .returned (.tuple #[.int .i64 (layNext (s.lay at_ (ent gen f len) (cnt len)) at_ (cnt len)), .int .i64 ((s.lay at_ (ent gen f len) (cnt len)).2 : Int)]) ∧
        ∃ W' P', RDisk w' V (s.lay at_ (ent gen f len) (cnt len)).1 W' P' ∧ RStep W P W' P' w w' := by
  have H := hide h
  have HR := hide hr
  have HF := hide hf
  have HRm := hide hroom
  have hl' : ¬ (8192 : Int) < (len : Int) := by omega
  have hg' : ¬ (2147483647 : Int) < (gen : Int) := by omega
  clear h hr hf hroom
  go_enter Try.func49, Try.ntmps49
  go_wp2_with fail
  refine (sectors_any gen (by omega) a len cap f w HR.out HF.out (by omega) hcap).mono ?_
  rintro r w1 ⟨v, rfl, hpg, hb1⟩
  have hsh := hpg.sheets (by unfold cnt; omega)
  obtain ⟨g, c, hv, _⟩ := hsh.at
  subst hv
  have hroom := HRm.out
  have hcn : cnt len ≤ 200 := by unfold cnt; omega
  have hc0 : 1 ≤ cnt len := by unfold cnt; omega
  generalize hFe : ent gen f len = F at *
  generalize hCe : cnt len = C at *
  have HFE := hide hFe
  have HCE := hide hCe
  clear hFe hCe
  have HB := hide hb1
  have H0 : Hid (LayAt w w1 V (bodies s at_ F 0).1 W P w.heap.size w1.heap.size (.slice (some ⟨g, 0, none⟩) C c) C F) :=
    ⟨W, P, H.out.later hb1, RStep.of_below hb1, fun b hb => .inl (H.out.lt b (.inl hb)), hsh, Nat.le_refl _⟩
  clear hpg hb1 hsh
  go_wp2_with fail
  refine (rend_any (H.out.later HB.out) e).mono ?_
  rintro r w2 ⟨rfl, rfl⟩
  have hm1 : min e (s.n : Int) ≤ (s.n : Int) := by omega
  generalize min e (s.n : Int) = m at *
  have hV : V < w.heap.size := H.out.V.2
  clear HRm HR HF HB H
  generalize hB : w.heap.size = B at *
  have HBB := hide hB
  clear hB
  go_wp2
  go_loopw [13] (fun ii wq => ∃ k : Nat, k + 1 ≤ C ∧ ii = .int .i64 ((k : Int) + 1) ∧ Hid ((bodies s at_ F k).2 = 0 ∧ LayAt w wq V (bodies s at_ F k).1 W P B w2.heap.size (.slice (some ⟨g, 0, none⟩) C c) C F)) (fun ii _ => C + 1 - (intOf ii).toNat)
  case atStart => exact ⟨0, by omega, rfl, ⟨rfl, H0.out⟩⟩
  case round =>
    clear H0
    obtain ⟨k, hk, rfl, hla⟩ := hrel
    obtain ⟨hok, W1, P1, hd, hst, hW1, hsh, hle⟩ := hla.out
    have hnn := bodies_n s at_ F k
    have hll := bodies_lo s at_ F k
    obtain ⟨g', c', hgc, hpages⟩ := hsh.at
    injection hgc with hgc _ hcc
    injection hgc with hgc
    injection hgc with hgc _ _
    subst hgc hcc
    have HD := hide hd
    have HST := hide hst
    have HW1 := hide hW1
    have HSH := hide hsh
    have HOK := hide hok
    have HNN := hide hnn
    have HLL := hide hll
    by_cases hlt : k + 1 < C
    · obtain ⟨pb, po, pc, hcell, hprw, hpb1, hpb2⟩ := hpages (k + 1) hlt
      have HPR := hide hprw
      have hk1 : (k : Int) + 1 < (C : Int) := by omega
      have hk0 : (0 : Int) ≤ (k : Int) + 1 := by omega
      have HNV : Hid (∀ x : Addr, some (⟨pb, po, none⟩ : Addr) = some x → 0 < 64 → x.block ≠ V) := fun x hx _ e => by
        simp at hx
        subst hx
        have : pb = V := e
        omega
      have ht : ((at_ : Int) + ((k : Int) + 1)).toNat = at_ + (k + 1) := by omega
      have hw := rdisk_wr hd ((at_ : Int) + ((k : Int) + 1)) (by omega) (by rw [hnn]; omega) _ 64 pc (F (k + 1)) (Nat.le_refl _) (by omega) hprw HNV.out
      rw [ht] at hw
      have HWR := hide hw
      have HB1 : Hid (bodies s at_ F (k + 1) = (bodies s at_ F k).1.wr (at_ + (k + 1)) (fill (F (k + 1)) 64)) := by
        show (if (bodies s at_ F k).2 = 0 then _ else _) = _
        rw [if_pos hok]
      clear hd hst hW1 hsh hok hpages hprw hla hnn hll ht hw
      generalize hS : (bodies s at_ F k).1.wr (at_ + (k + 1)) (fill (F (k + 1)) 64) = S at *
      clear hS
      go_wp2_with fail
      refine HWR.out.mono ?_
      rintro r w3 ⟨rfl, W3, P3, hd3, hst3⟩
      have HL3 := hide (LayAt.step HST.out HW1.out HSH.out hle hd3 hst3)
      have HD3 := hide (And.intro hd3 (HST.out.trans hst3))
      clear hd3 hst3
      by_cases hE : S.2 = 0
      · have e1 : ((S.2 : Int) != 0) = false := by rw [hE]; rfl
        have HE := hide hE
        clear hE
        go_wp2
        exact ⟨⟨k + 1, by omega, by go_num, ⟨by rw [HB1.out]; exact HE.out, by rw [HB1.out]; exact HL3.out⟩⟩, by simp [intOf]; omega⟩
      · have e1 : ((S.2 : Int) != 0) = true := by rw [bne_iff_ne]; omega
        have HE : Hid (s.lay at_ F C = S) := by
          have := lay_of_stuck (n := C) (k := k + 1) (by omega) (by rw [HB1.out]; exact hE)
          rw [HB1.out] at this
          exact this
        have HE0 := hide hE
        clear hE
        go_wp2
        go_ret2
        obtain rfl := HFE.out
        obtain rfl := HCE.out
        exact lay_bad HE.out HE0.out HD3.out.1 HD3.out.2
    · obtain ⟨pb, po, pc, hcell, hprw, hpb1, hpb2⟩ := hpages 0 (by omega)
      have hk1 : ¬ (k : Int) + 1 < (C : Int) := by omega
      have hkC : k = C - 1 := by omega
      have HKC := hide hkC
      have HFL := hide (rdisk_fl hd)
      have hG : w2.heap.size ≤ wr.heap.size := hle
      have HPG := hide hpages
      clear hd hst hW1 hsh hok hla hnn hll hkC hpages hcell hprw hpb1 hpb2
      generalize hS : (bodies s at_ F k).1 = S at *
      have HS := hide hS
      clear hS
      go_wp2_with fail
      refine HFL.out.mono ?_
      rintro r w3 ⟨rfl, W3, P3, hd3, hst3⟩
      obtain ⟨W3', P3', hd3', hst3', hW3', hsh3', hle3'⟩ := LayAt.step HST.out HW1.out HSH.out hle hd3 hst3
      have h1 := fl_n S
      have h2 := fl_lo S
      have HLY : Hid (s.lay at_ F C = if S.fl.2 = 0 then (if (S.fl.1.wr at_ (fill (F 0) 64)).2 = 0 then (S.fl.1.wr at_ (fill (F 0) 64)).1.fl else S.fl.1.wr at_ (fill (F 0) 64)) else S.fl) := by
        have e1 : (bodies s at_ F (C - 1)).2 = 0 := by rw [← HKC.out]; exact HOK.out
        have e2 : (bodies s at_ F (C - 1)).1 = S := by rw [← HKC.out]; exact HS.out
        show s.lay at_ F C = _
        unfold St.lay
        simp only [e1, e2, if_true]
      generalize hT : S.fl = T at *
      clear hT
      have HST3 := hide hst3'
      have HD3 := hide hd3'
      have HW3 := hide hW3'
      have HSH3 := hide hsh3'
      have hnS : T.1.n = s.n := by rw [h1]; exact HNN.out
      have hlS : T.1.lo.length < 1000000 := by have := HLL.out; omega
      obtain ⟨g', c', hgc, hpages⟩ := hsh3'.at
      injection hgc with hgc _ hcc
      injection hgc with hgc
      injection hgc with hgc _ _
      subst hgc hcc
      obtain ⟨pb, po, pc, hcell, hprw, hpb1, hpb2⟩ := hpages 0 (by omega)
      have HNV : Hid (∀ x : Addr, some (⟨pb, po, none⟩ : Addr) = some x → 0 < 64 → x.block ≠ V) := fun x hx _ e => by
        simp at hx
        subst hx
        have : pb = V := e
        omega
      have hw := rdisk_wr hd3' (at_ : Int) (by omega) (by rw [hnS]; omega) _ 64 pc (F 0) (Nat.le_refl _) hlS hprw HNV.out
      rw [Int.toNat_natCast] at hw
      have HWR := hide hw
      have hC0 : (0 : Int) < (C : Int) := by omega
      clear hd3 hst3 hd3' hst3' hW3' hsh3' hw h1 h2 hpages hprw
      by_cases hE : T.2 = 0
      · have e1 : ((T.2 : Int) != 0) = false := by rw [hE]; rfl
        have HE := hide hE
        clear hE
        go_wp2_with fail
        refine HWR.out.mono ?_
        rintro r w4 ⟨rfl, W4, P4, hd4, hst4⟩
        have hn4 := wr_n T.1 at_ (fill (F 0) 64)
        generalize hU : T.1.wr at_ (fill (F 0) 64) = U at *
        clear hU
        have HST4 := hide (HST3.out.trans hst4)
        have HD4 := hide hd4
        have HFL4 := hide (rdisk_fl hd4)
        clear hd4 hst4
        by_cases hE4 : U.2 = 0
        · have e4 : ((U.2 : Int) != 0) = false := by rw [hE4]; rfl
          have HE4 := hide hE4
          clear hE4
          go_wp2_with fail
          refine HFL4.out.mono ?_
          rintro r w5 ⟨rfl, W5, P5, hd5, hst5⟩
          generalize hX : U.1.fl = X at *
          clear hX
          have HST5 := hide (HST4.out.trans hst5)
          have HD5 := hide hd5
          clear hd5 hst5
          by_cases hE5 : X.2 = 0
          · have e5 : ((X.2 : Int) != 0) = false := by rw [hE5]; rfl
            have HE5 := hide hE5
            clear hE5
            go_wp2
            go_ret2
            obtain rfl := HFE.out
            obtain rfl := HCE.out
            exact lay_good (by rw [HLY.out, if_pos HE.out, if_pos HE4.out]) HE5.out HD5.out HST5.out
          · have e5 : ((X.2 : Int) != 0) = true := by rw [bne_iff_ne]; omega
            have HE5 := hide hE5
            clear hE5
            go_wp2
            go_ret2
            obtain rfl := HFE.out
            obtain rfl := HCE.out
            exact lay_bad (by rw [HLY.out, if_pos HE.out, if_pos HE4.out]) HE5.out HD5.out HST5.out
        · have e4 : ((U.2 : Int) != 0) = true := by rw [bne_iff_ne]; omega
          have HE4 := hide hE4
          clear hE4
          go_wp2
          go_ret2
          obtain rfl := HFE.out
          obtain rfl := HCE.out
          exact lay_bad (by rw [HLY.out, if_pos HE.out, if_neg HE4.out]) HE4.out HD4.out HST4.out
      · have e1 : ((T.2 : Int) != 0) = true := by rw [bne_iff_ne]; omega
        have HE := hide hE
        clear hE
        go_wp2
        go_ret2
        obtain rfl := HFE.out
        obtain rfl := HCE.out
        exact lay_bad (by rw [HLY.out, if_neg HE.out]) HE.out HD3.out HST3.out
end Go.Proofs.Ytbecchoidglaeaa
