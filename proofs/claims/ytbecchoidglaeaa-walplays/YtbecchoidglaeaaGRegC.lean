/- The program's region: Scan and Clean. -/
import Derived.Test.YtbecchoidglaeaaRegE
namespace Go.Proofs.Ytbecchoidglaeaa
open Go.RowKit
set_option maxRecDepth 100000

theorem Try.infoBytes : (Try.prog.info? 37).map (fun i => (i.zero, i.size, i.bytes)) = some (some (.slice none 0 0), 1, 24) := by kernel_rfl
/-- The sector behind k entries from at_ on. -/
def pos (s : St) (at_ : Nat) : Nat → Nat
  | 0 => at_
  | k + 1 => pos s at_ k + cnt (lenAt s (pos s at_ k))
theorem pos_ge (s : St) (at_ : Nat) : ∀ k, at_ + k ≤ pos s at_ k
  | 0 => Nat.le_refl _
  | k + 1 => by
    have := pos_ge s at_ k
    show at_ + (k + 1) ≤ pos s at_ k + cnt (lenAt s (pos s at_ k))
    unfold cnt
    omega
theorem isEnt_ge {s : St} {at_ : Nat} {e : Int} {gen : Nat} (h : s.n ≤ at_) : isEnt s at_ e gen = false := by
  apply isEnt_false1
  cases hh : fit s.n at_ e (lenAt s at_) with
  | false => rfl
  | true => have := (fit_iff _ _ _ _).1 hh; omega
/-- A row of n rows of bytes, row i the L i bytes G i; all new since B. -/
def RowsIn (w : World) (B : Nat) (v : Value) (n : Nat) (L : Nat → Nat) (G : Nat → Nat → Nat) : Prop :=
  ∃ vs, w.ownsRow B 37 1 v n vs ∧ ∀ i, i < n → ∃ a c, vs[i]? = some (.slice a (L i) c) ∧ Rw w a (L i) (G i) ∧ (0 < L i → ∀ x, a = some x → B ≤ x.block ∧ v.ownBlock ≠ some x.block)
theorem rows_none (w : World) (B : Nat) (L : Nat → Nat) (G : Nat → Nat → Nat) : RowsIn w B (.slice none 0 0) 0 L G := ⟨[], ⟨rfl, .inl ⟨rfl, rfl⟩⟩, fun i hi => absurd hi (by omega)⟩
theorem RowsIn.below {w w' : World} {B n : Nat} {v : Value} {L : Nat → Nat} {G : Nat → Nat → Nat} (h : RowsIn w B v n L G) (hb : Below w.heap.size w w') : RowsIn w' B v n L G := by
  obtain ⟨vs, ho, hp⟩ := h
  refine ⟨vs, own_keeps ho (Keeps.of_below hb (fun _ => False)) (fun _ _ h => h), fun i hi => ?_⟩
  obtain ⟨a, c, h1, h2, h3⟩ := hp i hi
  exact ⟨a, c, h1, h2.below hb, h3⟩
theorem run_rows {w : World} {B n : Nat} {v : Value} {L : Nat → Nat} {G : Nat → Nat → Nat} (h : RowsIn w B v n L G) (hB : B ≤ w.heap.size) (hn : n ≤ 100000) (a : Option Addr) (l c : Nat) (hl : l = L n) (hr : Rw w a l (G n)) (hx : 0 < l → ∀ x, a = some x → B ≤ x.block ∧ v.ownBlock ≠ some x.block) :
    ∃ v' w', (Builtin.append_ #[29, 29] 29 #[v, .slice (some ⟨w.heap.size, 0, none⟩) 1 1]).run Try.prog (w.alloc (.cells #[.slice a l c] 37)) = .ok v' w' ∧ RowsIn w' B v' (n + 1) L G ∧ Below B w w' := by
  subst hl
  obtain ⟨vs, ho, hp⟩ := h
  obtain ⟨i0, hi0, hz0, hz1, hz2⟩ := info_parts Try.infoBytes
  obtain ⟨v', w', hrun, ho1, hgr, _, hat⟩ := run_append_own_at (P := Try.prog) (w.alloc (.cells #[.slice a (L n) c] 37)) B 29 29 37 i0 _ 1 24 Try.underlying29 hi0 hz0 hz1 hz2 rfl (by omega) v n vs (ho.alloc _)
    ⟨w.heap.size, 0, none⟩ 1 1 [.slice a (L n) c] rfl (World.news_of_block (cs := #[.slice a (L n) c]) (t := 37) (fr := (0, 0)) (heap_alloc_new w (.cells #[.slice a (L n) c] 37))) (by simp [Value.oneCell']) (by unfold maxLen; omega) (by omega) (by simp; omega)
  have kk : Keeps (fun b => v.ownBlock = some b) w w' := ((Keeps.refl _ w).alloc _).grown hgr (fun b e => .inl e)
  have hvl := fun b e => ownBlock_lt ho b e
  have hvB : ∀ b, v.ownBlock = some b → B ≤ b := fun x e => by
    rcases ho.2 with ⟨rfl, _⟩ | ⟨g, cap, cur, rfl, hg, _⟩
    · simp [Value.ownBlock] at e
    · simp [Value.ownBlock] at e; omega
  rw [World.size_alloc] at hat
  have hne : ∀ x : Addr, x.block < w.heap.size → v.ownBlock ≠ some x.block → v'.ownBlock ≠ some x.block := fun x h1 h2 e => by
    rcases hat with h3 | h3
    · exact h2 (h3 ▸ e)
    · rw [h3] at e; injection e with e; omega
  have hlen : vs.length = n := by have := ho.1; omega
  refine ⟨v', w', hrun, ⟨_, ho1, fun i hi => ?_⟩, kk.below B hB hvB⟩
  by_cases e : i < n
  · obtain ⟨b, d, h1, h2, h3⟩ := hp i e
    refine ⟨b, d, by rw [List.getElem?_append_left (by omega)]; exact h1, h2.keeps kk (fun x hx h0 => (h3 h0 x hx).2), fun h0 x hx2 => ⟨(h3 h0 x hx2).1, hne x (h2.lt x hx2 h0) (h3 h0 x hx2).2⟩⟩
  · obtain rfl : i = n := by omega
    exact ⟨a, c, by rw [List.getElem?_append_right (by omega), hlen]; simp, hr.keeps kk (fun x h1 h0 => (hx h0 x h1).2), fun h0 x h1 => ⟨(hx h0 x h1).1, hne x (hr.lt x h1 h0) (hx h0 x h1).2⟩⟩
/-- The first K are entries; what is behind them is none. -/
def Found (s : St) (at_ : Nat) (e : Int) (gen K : Nat) : Prop := (∀ i, i < K → isEnt s (pos s at_ i) e gen = true) ∧ isEnt s (pos s at_ K) e gen = false
/-- What Scan answers. -/
def ScanRes (w w' : World) (s : St) (at_ : Nat) (e : Int) (gen : Nat) (r : Ending) : Prop :=
  ∃ K v, Found s at_ e gen K ∧ r = .returned (.tuple #[v, .int .i64 (pos s at_ K : Int)]) ∧ RowsIn w' w.heap.size v K (fun i => lenAt s (pos s at_ i)) (fun i => runs s (pos s at_ i + 1))
/-- Scan is under way. -/
def ScanAt (w wq : World) (s : St) (at_ : Nat) (e : Int) (gen k : Nat) (v : Value) : Prop :=
  (∀ i, i < k → isEnt s (pos s at_ i) e gen = true) ∧ RowsIn wq w.heap.size v k (fun i => lenAt s (pos s at_ i)) (fun i => runs s (pos s at_ i + 1)) ∧ Below w.heap.size w wq
theorem ScanAt.step {w wq w3 : World} {s : St} {at_ : Nat} {e : Int} {gen k : Nat} {v v' : Value} (h : ScanAt w wq s at_ e gen k v) (hk : isEnt s (pos s at_ k) e gen = true) (h2 : RowsIn w3 w.heap.size v' (k + 1) (fun i => lenAt s (pos s at_ i)) (fun i => runs s (pos s at_ i + 1))) (h3 : Below w.heap.size wq w3) :
    ScanAt w w3 s at_ e gen (k + 1) v' :=
  ⟨fun i hi => by
    by_cases e : i = k
    · rw [e]; exact hk
    · exact h.1 i (by omega), h2, h.2.2.trans h3⟩
theorem ScanAt.bound {w wq : World} {s : St} {at_ : Nat} {e : Int} {gen k : Nat} {v : Value} (h : ScanAt w wq s at_ e gen k v) : k ≤ s.n ∧ (0 < k → pos s at_ k ≤ s.n) := by
  cases k with
  | zero => exact ⟨Nat.zero_le _, fun h => absurd h (by omega)⟩
  | succ k =>
    have h1 := isEnt_lt (h.1 k (by omega))
    have h2 := pos_ge s at_ (k + 1)
    have h3 : pos s at_ (k + 1) ≤ s.n := h1.1
    exact ⟨by omega, fun _ => h3⟩
set_option maxHeartbeats 400000 in
theorem scan_bad {w : World} {D : Nat} {s : St} {F : Nat → Prop} (h : Disk w D s F) (at_ e : Int) (gen : Nat) (hg : gen ≤ 2147483647) (ha : ¬ (0 ≤ at_ ∧ at_ < s.n)) :
    Calls Try.prog 35 #[.pointer (some ⟨D, 0, none⟩), .int .i64 at_, .int .i64 e, .int .i64 (gen : Int)] w fun r w' => r = .returned (.tuple #[.slice none 0 0, .int .i64 at_]) ∧ w' = w := by
  have hd : decide ((0 : Int) ≤ (gen : Int) ∧ (gen : Int) ≤ 2147483647) = true := by simp; omega
  have HG := hide (isGen_any (gen : Int) w)
  rw [hd] at HG
  have HE := hide (entry_bad h at_ e (gen : Int) ha)
  clear h ha hd
  go_enter Try.func35, Try.ntmps35
  go_wp2_with fail
  refine HG.out.mono ?_
  rintro r w1 ⟨rfl, rfl⟩
  go_wp2
  go_loopw [1, 10] (fun av vv wq => av = .int .i64 at_ ∧ vv = .slice none 0 0 ∧ wq = w1) (fun _ _ _ => 0)
  case atStart => exact ⟨rfl, rfl, rfl⟩
  case round =>
    obtain ⟨rfl, rfl, rfl⟩ := hrel
    go_wp2_with fail
    refine HE.out.mono ?_
    rintro r w1 ⟨rfl, rfl⟩
    go_wp2
    go_ret2
    exact ⟨rfl, rfl⟩
set_option maxRecDepth 100000 in
set_option maxHeartbeats 1600000 in
theorem scan_in {w : World} {D : Nat} {s : St} {F : Nat → Prop} (h : Disk w D s F) (at_ gen : Nat) (e : Int) (hg : gen ≤ 2147483647) (hs : s.n ≤ 1024) (ha : at_ < s.n) (hby : Byt s) :
    Calls Try.prog 35 #[.pointer (some ⟨D, 0, none⟩), .int .i64 (at_ : Int), .int .i64 e, .int .i64 (gen : Int)] w fun r w' => ScanRes w w' s at_ e gen r ∧ Below w.heap.size w w' := by
  have hd : decide ((0 : Int) ≤ (gen : Int) ∧ (gen : Int) ≤ 2147483647) = true := by simp; omega
  have HG := hide (isGen_any (gen : Int) w)
  rw [hd] at HG
  have H := hide h
  have HBy := hide hby
  clear h hd hby
  go_enter Try.func35, Try.ntmps35
  go_wp2_with fail
  refine HG.out.mono ?_
  rintro r w1 ⟨rfl, rfl⟩
  go_wp2
  go_loopw [1, 10] (fun av vv wq => ∃ k x : Nat, Hid (x = pos s at_ k) ∧ av = .int .i64 (x : Int) ∧ Hid (ScanAt w1 wq s at_ e gen k vv)) (fun av _ _ => s.n - (intOf av).toNat)
  case atStart => exact ⟨0, at_, rfl, rfl, fun i hi => absurd hi (by omega), rows_none _ _ _ _, Below.refl _ _⟩
  case round =>
    obtain ⟨k, x, HX, rfl, hp⟩ := hrel
    have hbd := hp.out.bound
    have hx : x ≤ s.n := by
      rw [HX.out]
      by_cases h0 : k = 0
      · subst h0; exact Nat.le_of_lt ha
      · exact hbd.2 (by omega)
    have hkn := hbd.1
    clear hbd
    have HD := hide (H.out.later hp.out.2.2)
    by_cases hlt : x < s.n
    · go_wp2_with fail
      refine (entry_in HD.out x gen e hg hs hlt HBy.out).mono ?_
      rintro r w2 ⟨hres, hb2⟩
      unfold EntRes at hres
      cases hent : isEnt s x e gen with
      | false =>
        rw [hent] at hres
        simp only [Bool.false_eq_true, if_false] at hres
        subst hres
        have HE := hide hent
        have HB2 := hide hb2
        clear hent hb2
        go_wp2
        go_ret2
        obtain rfl := HX.out
        exact ⟨⟨k, _, ⟨hp.out.1, HE.out⟩, rfl, hp.out.2.1.below HB2.out⟩, hp.out.2.2.trans (below_le HB2.out hp.out.2.2.size)⟩
      | true =>
        rw [hent] at hres
        simp only [if_true] at hres
        obtain ⟨a, rfl, hr, hbk⟩ := hres
        have hel := isEnt_lt hent
        have HE := hide hent
        have HB2 := hide hb2
        obtain rfl := HX.out
        obtain ⟨v', w3, hrun, hrows, hb3⟩ := run_rows (hp.out.2.1.below hb2) (by have := hp.out.2.2.size; have := hb2.size; omega) (by omega) a (lenAt s (pos s at_ k)) (lenAt s (pos s at_ k)) rfl hr (fun h0 y hy => by
          have h1 := hbk y hy
          refine ⟨by have := hp.out.2.2.size; omega, fun e2 => ?_⟩
          obtain ⟨vs, ho, _⟩ := hp.out.2.1
          have := ownBlock_lt ho _ e2
          omega)
        have HR := hide hrun
        have HS := hide (hp.out.step hent hrows ((below_le hb2 hp.out.2.2.size).trans hb3))
        obtain ⟨ln, hln⟩ : ∃ ln, ln = lenAt s (pos s at_ k) := ⟨_, rfl⟩
        have hps : pos s at_ (k + 1) = pos s at_ k + cnt ln := by rw [hln]; rfl
        rw [← hln] at hel HR
        rw [← hln]
        have HPS := hide hps
        have hcl : ln ≤ 100000 := by have := hel.1; unfold cnt at this; omega
        have hel1 : (pos s at_ k : Int) + (cnt ln : Int) ≤ 1024 := by omega
        have hc0 : 1 ≤ cnt ln := by unfold cnt; omega
        clear hent hb2 hr hbk hrun hrows hb3 hps hln hel
        go_wp2_with ((with_reducible refine wpl_append _ _ 29 _ (.slice (some ⟨w2.heap.size, 0, none⟩) 1 1) _ ?_ ?_ HR.out ?_); (· rfl); (· rfl))
        refine (size_any (ln : Int) _ (by omega)).mono ?_
        rintro r w5 ⟨rfl, rfl⟩
        rw [Int.toNat_natCast]
        go_wp2
        exact ⟨⟨k + 1, pos s at_ k + cnt ln, HPS.out.symm, by go_num, HS⟩, by simp [intOf]; omega⟩
    · go_wp2_with fail
      refine (entry_bad HD.out (x : Int) e (gen : Int) (by omega)).mono ?_
      rintro r w2 ⟨rfl, rfl⟩
      go_wp2
      go_ret2
      obtain rfl := HX.out
      exact ⟨⟨k, _, ⟨hp.out.1, isEnt_ge (by omega)⟩, rfl, hp.out.2.1⟩, hp.out.2.2⟩
end Go.Proofs.Ytbecchoidglaeaa
/- The document's Rows: lists of rows of bytes. -/
namespace Go.Proofs.Ytbecchoidglaeaa
open Go.RowKit
set_option maxRecDepth 100000

theorem drewN_more (w : World) (a b : Nat) : (w.drewN a).drewN b = w.drewN (a + b) := by
  simp [World.drewN, Nat.add_assoc]
theorem drewN_zero (w : World) : w.drewN 0 = w := rfl
theorem cell_drewN (w : World) (m : Nat) (x : Addr) : (w.drewN m).cell? x = w.cell? x := World.cell?_of_block rfl
set_option maxHeartbeats 400000 in
theorem sameq_some (b1 o1 b2 o2 len c1 c2 : Nat) (f : Nat → Nat) (w : World) (hm : len ≤ maxLen)
    (h1 : ∀ i, i < len → w.cell? ⟨b1, o1 + i, none⟩ = some (.int .u8 (f i : Int))) (h2 : ∀ i, i < len → w.cell? ⟨b2, o2 + i, none⟩ = some (.int .u8 (f i : Int))) :
    Calls Try.prog 39 #[.slice (some ⟨b1, o1, none⟩) len c1, .slice (some ⟨b2, o2, none⟩) len c2] w fun e w' => e = .returned (.bool true) ∧ ∃ m, w' = w.drewN m := by
  unfold maxLen at hm
  have H1 := hide h1
  have H2 := hide h2
  clear h1 h2
  go_enter Try.func39, Try.ntmps39
  go_wp2
  go_loopw [5] (fun i wq => ∃ k m : Nat, k ≤ len ∧ i = .int .i64 k ∧ Hid (wq = w.drewN m)) (fun i _ => len - (intOf i).toNat)
  case atStart => exact ⟨0, 0, Nat.zero_le _, rfl, rfl⟩
  case round =>
    obtain ⟨k, m, hk, rfl, HW⟩ := hrel
    by_cases hlt : k < len
    · have c1 : wr.cell? ⟨b1, o1 + k, none⟩ = some (.int .u8 (f k : Int)) := by rw [HW.out, cell_drewN]; exact H1.out k hlt
      have c2 : wr.cell? ⟨b2, o2 + k, none⟩ = some (.int .u8 (f k : Int)) := by rw [HW.out, cell_drewN]; exact H2.out k hlt
      have hk0 : (0 : Int) ≤ (k : Int) := Int.natCast_nonneg _
      have hk1 : (k : Int) < (len : Int) := by omega
      go_wp2_with fail
      go_quiet (fail)
      go_wp2
      exact ⟨⟨k + 1, m + nq, by omega, by go_num, show wr.drewN nq = _ by rw [HW.out, drewN_more]⟩, by simp [intOf]; omega⟩
    · go_wp2
      go_ret
      exact ⟨rfl, m, HW.out⟩
set_option maxHeartbeats 400000 in
theorem sameq_empty (a1 a2 : Option Addr) (c1 c2 : Nat) (w : World) :
    Calls Try.prog 39 #[.slice a1 0 c1, .slice a2 0 c2] w fun e w' => e = .returned (.bool true) ∧ ∃ m, w' = w.drewN m := by
  go_enter Try.func39, Try.ntmps39
  go_wp2
  go_loopw [5] (fun i wq => i = .int .i64 0 ∧ wq = w) (fun i _ => 0 - (intOf i).toNat)
  case atStart => exact ⟨rfl, rfl⟩
  case round =>
    obtain ⟨rfl, rfl⟩ := hrel
    go_wp2
    go_ret
    exact ⟨rfl, 0, rfl⟩
theorem sameq_any (a1 a2 : Option Addr) (len c1 c2 : Nat) (f g : Nat → Nat) (w : World) (h1 : Rw w a1 len f) (h2 : Rw w a2 len g) (hfg : ∀ i, i < len → f i = g i) :
    Calls Try.prog 39 #[.slice a1 len c1, .slice a2 len c2] w fun e w' => e = .returned (.bool true) ∧ ∃ m, w' = w.drewN m := by
  by_cases h0 : len = 0
  · subst h0; exact sameq_empty a1 a2 c1 c2 w
  · obtain ⟨b1, o1, rfl, hc1⟩ := h1.2 (by omega)
    obtain ⟨b2, o2, rfl, hc2⟩ := (h2.congr (g := f) fun i hi => (hfg i hi).symm).2 (by omega)
    exact sameq_some b1 o1 b2 o2 len c1 c2 f w h1.1 hc1 hc2
/-- v is a list of n rows of bytes, row i the L i bytes G i. -/
def RowsRd (w : World) (v : Value) (n : Nat) (L : Nat → Nat) (G : Nat → Nat → Nat) : Prop :=
  ∃ a c, v = .slice a n c ∧ n ≤ 100000 ∧ (0 < n → ∃ g, a = some ⟨g, 0, none⟩ ∧ ∀ i, i < n → ∃ b d, w.cell? ⟨g, i, none⟩ = some (.slice b (L i) d) ∧ Rw w b (L i) (G i))
theorem RowsIn.rd {w : World} {B n : Nat} {v : Value} {L : Nat → Nat} {G : Nat → Nat → Nat} (h : RowsIn w B v n L G) (hn : n ≤ 100000) : RowsRd w v n L G := by
  obtain ⟨vs, ho, hp⟩ := h
  obtain ⟨a, c, rfl, _⟩ := own_of_none ho
  refine ⟨a, c, rfl, hn, fun h0 => ?_⟩
  rcases ho.2 with ⟨e, hz⟩ | ⟨g, cap, cur, e, _⟩
  · omega
  · injection e with e1 e2 e3
    subst e1 e3
    refine ⟨g, rfl, fun i hi => ?_⟩
    obtain ⟨b, d, h1, h2, _⟩ := hp i hi
    exact ⟨b, d, by rw [ho.cellAt i (by omega)]; exact h1, h2⟩
theorem RowsRd.below {w w' : World} {n : Nat} {v : Value} {L : Nat → Nat} {G : Nat → Nat → Nat} (h : RowsRd w v n L G) (hb : Below w.heap.size w w') : RowsRd w' v n L G := by
  obtain ⟨a, c, rfl, hn, hp⟩ := h
  refine ⟨a, c, rfl, hn, fun h0 => ?_⟩
  obtain ⟨g, rfl, hc⟩ := hp h0
  refine ⟨g, rfl, fun i hi => ?_⟩
  obtain ⟨b, d, h1, h2⟩ := hc i hi
  exact ⟨b, d, by rw [(Keeps.of_below hb (fun _ => False)).cell _ (World.block_lt_of_cell? w _ h1) (fun h => h)]; exact h1, h2.below hb⟩
theorem RowsRd.congr {w : World} {n : Nat} {v : Value} {L L' : Nat → Nat} {G G' : Nat → Nat → Nat} (h : RowsRd w v n L G) (hL : ∀ i, i < n → L i = L' i) (hG : ∀ i, i < n → ∀ j, j < L i → G i j = G' i j) : RowsRd w v n L' G' := by
  obtain ⟨a, c, rfl, hn, hp⟩ := h
  refine ⟨a, c, rfl, hn, fun h0 => ?_⟩
  obtain ⟨g, rfl, hc⟩ := hp h0
  refine ⟨g, rfl, fun i hi => ?_⟩
  obtain ⟨b, d, h1, h2⟩ := hc i hi
  rw [← hL i hi]
  exact ⟨b, d, h1, h2.congr (hG i hi)⟩
theorem RowsIn.keeps {w w' : World} {B n : Nat} {v : Value} {L : Nat → Nat} {G : Nat → Nat → Nat} (h : RowsIn w B v n L G) {F : Nat → Prop} (hk : Keeps F w w') (hF : ∀ b, F b → b < B) : RowsIn w' B v n L G := by
  obtain ⟨vs, ho, hp⟩ := h
  have hv : ∀ x, v.ownBlock = some x → B ≤ x := fun x e => by
    rcases ho.2 with ⟨rfl, _⟩ | ⟨g, cap, cur, rfl, hg, _⟩
    · simp [Value.ownBlock] at e
    · simp [Value.ownBlock] at e; omega
  refine ⟨vs, own_keeps ho hk (fun x e hf => by have := hv x e; have := hF x hf; omega), fun i hi => ?_⟩
  obtain ⟨a, c, h1, h2, h3⟩ := hp i hi
  exact ⟨a, c, h1, h2.keeps hk (fun x hx h0 hf => by have := (h3 h0 x hx).1; have := hF _ hf; omega), h3⟩
set_option maxHeartbeats 400000 in
theorem rows_unlike (a1 a2 : Option Addr) (n1 n2 c1 c2 : Nat) (w : World) (h : n1 ≠ n2) :
    Calls Try.prog 14 #[.slice a1 n1 c1, .slice a2 n2 c2] w fun e w' => e = .returned (.bool false) ∧ w' = w := by
  have e0 : ((n1 : Int) != (n2 : Int)) = true := by simp; omega
  clear h
  go_enter Try.func14, Try.ntmps14
  go_wp2
  go_ret
  exact ⟨rfl, rfl⟩
set_option maxHeartbeats 800000 in
theorem rows_same {w : World} {v1 v2 : Value} {n : Nat} {L : Nat → Nat} {G : Nat → Nat → Nat} (h1 : RowsRd w v1 n L G) (h2 : RowsRd w v2 n L G) :
    Calls Try.prog 14 #[v1, v2] w fun e w' => e = .returned (.bool true) ∧ ∃ m, w' = w.drewN m := by
  obtain ⟨a1, c1, rfl, hn, hp1⟩ := h1
  obtain ⟨a2, c2, rfl, _, hp2⟩ := h2
  have H1 := hide hp1
  have H2 := hide hp2
  have hn2 : (n : Int) ≤ 100000 := by omega
  clear hp1 hp2 hn
  go_enter Try.func14, Try.ntmps14
  go_wp2
  go_loopw [5] (fun i wq => ∃ k m : Nat, k ≤ n ∧ i = .int .i64 k ∧ Hid (wq = w.drewN m)) (fun i _ => n - (intOf i).toNat)
  case atStart => exact ⟨0, 0, Nat.zero_le _, rfl, rfl⟩
  case round =>
    obtain ⟨k, m, hk, rfl, HW⟩ := hrel
    by_cases hlt : k < n
    · obtain ⟨g1, rfl, hc1⟩ := H1.out (by omega)
      obtain ⟨g2, rfl, hc2⟩ := H2.out (by omega)
      obtain ⟨b1, d1, x1, r1⟩ := hc1 k hlt
      obtain ⟨b2, d2, x2, r2⟩ := hc2 k hlt
      have x1' : wr.cell? ⟨g1, k, none⟩ = some (.slice b1 (L k) d1) := by rw [HW.out, cell_drewN]; exact x1
      have x2' : wr.cell? ⟨g2, k, none⟩ = some (.slice b2 (L k) d2) := by rw [HW.out, cell_drewN]; exact x2
      have R1 := hide r1
      have R2 := hide r2
      have hk0 : (0 : Int) ≤ (k : Int) := Int.natCast_nonneg _
      have hk1 : (k : Int) < (n : Int) := by omega
      clear hc1 hc2 x1 x2 r1 r2
      have HS : Hid (∀ j, Calls Try.prog 39 #[.slice b1 (L k) d1, .slice b2 (L k) d2] (wr.drewN j) fun e w' => e = .returned (.bool true) ∧ ∃ m, w' = (wr.drewN j).drewN m) := fun j => by
        have hbl : Below w.heap.size w (wr.drewN j) := by rw [HW.out]; exact below_drewN (below_drewN (Below.refl _ _) m) j
        exact sameq_any b1 b2 (L k) d1 d2 (G k) (G k) _ (R1.out.below hbl) (R2.out.below hbl) (fun _ _ => rfl)
      go_wp2_with fail
      go_quiet ((go_at_call 39; refine Calls.quiet_of (HS.out _)))
      go_wp2
      exact ⟨⟨k + 1, m + nq, by omega, by go_num, show wr.drewN nq = _ by rw [HW.out, drewN_more]⟩, by simp [intOf]; omega⟩
    · go_wp2
      go_ret
      exact ⟨rfl, m, HW.out⟩
end Go.Proofs.Ytbecchoidglaeaa
