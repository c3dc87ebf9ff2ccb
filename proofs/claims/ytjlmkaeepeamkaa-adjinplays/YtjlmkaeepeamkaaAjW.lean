/- slices.Compact over prefixes. -/
import Derived.Test.YtjlmkaeepeamkaaAjT
import Derived.Lib.SliceRun
import Derived.Deep.QuietTactic
import Derived.BigQuiet
namespace Go.Proofs.Ytjlmkaeepeamkaa
open Go.RowKit
set_option maxRecDepth 100000

/-- Is the one at j another one than that ahead of it? -/
def keptJ (d : Nat → Nat × Int) (j : Nat) : Bool := decide (j = 0) || decide (d j ≠ d (j - 1))
/-- The first m, each run of the same ones once. -/
def compU (d : Nat → Nat × Int) : Nat → List (Nat × Int)
  | 0 => []
  | m + 1 => if keptJ d m then compU d m ++ [d m] else compU d m
theorem compU_keep {d : Nat → Nat × Int} {m : Nat} (h : keptJ d m = true) : compU d (m + 1) = compU d m ++ [d m] := by rw [compU, if_pos h]
theorem compU_skip {d : Nat → Nat × Int} {m : Nat} (h : keptJ d m = false) : compU d (m + 1) = compU d m := by rw [compU, if_neg (by rw [h]; simp)]
theorem compU_le (d : Nat → Nat × Int) : ∀ m, (compU d m).length ≤ m
  | 0 => Nat.le_refl _
  | m + 1 => by
    have := compU_le d m
    rw [compU]
    split
    · rw [List.length_append]; simp; omega
    · omega
theorem compU_all {d : Nat → Nat × Int} : ∀ m, (∀ j, j < m → keptJ d j = true) → (compU d m).length = m ∧ ∀ j, j < m → (compU d m)[j]? = some (d j)
  | 0, _ => ⟨rfl, fun j hj => absurd hj (by omega)⟩
  | m + 1, h => by
    obtain ⟨h1, h2⟩ := compU_all m (fun j hj => h j (by omega))
    rw [compU_keep (h m (by omega))]
    refine ⟨by rw [List.length_append, h1]; rfl, fun j hj => ?_⟩
    by_cases e : j < m
    · rw [List.getElem?_append_left (by omega)]; exact h2 j e
    · have : j = m := by omega
      subst this
      rw [List.getElem?_append_right (by omega), h1]; simp
theorem mem_compU {d : Nat → Nat × Int} (x : Nat × Int) : ∀ m, x ∈ compU d m ↔ ∃ j, j < m ∧ d j = x
  | 0 => by simp [compU]
  | m + 1 => by
    cases h : keptJ d m with
    | true =>
      rw [compU_keep h, List.mem_append, mem_compU x m, List.mem_singleton]
      constructor
      · rintro (⟨j, h1, h2⟩ | rfl)
        · exact ⟨j, by omega, h2⟩
        · exact ⟨m, by omega, rfl⟩
      · rintro ⟨j, h1, h2⟩
        by_cases e : j = m
        · subst e; exact .inr h2.symm
        · exact .inl ⟨j, by omega, h2⟩
    | false =>
      rw [compU_skip h, mem_compU x m]
      unfold keptJ at h
      simp only [Bool.or_eq_false_iff, decide_eq_false_iff_not, Decidable.not_not] at h
      constructor
      · rintro ⟨j, h1, h2⟩; exact ⟨j, by omega, h2⟩
      · rintro ⟨j, h1, h2⟩
        by_cases e : j = m
        · subst e; exact ⟨j - 1, by omega, h.2.symm.trans h2⟩
        · exact ⟨j, by omega, h2⟩
/-- Of ones that don't fall just the rising ones are left. -/
theorem compU_rises {d : Nat → Nat × Int} {n : Nat} (hs : ∀ i j, i < j → j < n → ¬ lessK (d j) (d i)) : ∀ m, m ≤ n → (compU d m).Pairwise lessK
  | 0, _ => List.Pairwise.nil
  | m + 1, hm => by
    have ih := compU_rises hs m (by omega)
    cases h : keptJ d m with
    | false => rw [compU_skip h]; exact ih
    | true =>
      rw [compU_keep h, List.pairwise_append]
      refine ⟨ih, by simp, fun x hx y hy => ?_⟩
      rw [List.mem_singleton] at hy
      subst hy
      obtain ⟨j, hj, rfl⟩ := (mem_compU x m).1 hx
      have n1 := hs j m hj (by omega)
      unfold keptJ at h
      simp only [Bool.or_eq_true, decide_eq_true_eq] at h
      have hne : d m ≠ d (m - 1) := by rcases h with h | h; omega; exact h
      have n2 : j = m - 1 ∨ ¬ lessK (d (m - 1)) (d j) := by
        by_cases e : j = m - 1
        · exact .inl e
        · exact .inr (hs j (m - 1) (by omega) (by omega))
      have n3 := hs (m - 1) m (by omega) (by omega)
      rw [lessK_iff] at *
      have ne3 : ¬ ((d m).1 = (d (m - 1)).1 ∧ (d m).2 = (d (m - 1)).2) := fun e => hne (Prod.ext e.1 e.2)
      rcases n2 with rfl | n2
      · omega
      · omega
/-- A row of n prefixes: at j there is f j. -/
structure RowF (w : World) (g n : Nat) (f : Nat → Nat × Int) : Prop where
  addr : ∀ j, j < n → w.cell? ⟨g, j * 2, none⟩ = some (.int .u32 ((f j).1 : Int))
  len : ∀ j, j < n → w.cell? ⟨g, j * 2 + 1, none⟩ = some (.int .i64 (f j).2)
  fr : ∀ j, w.frozen? ⟨g, j, none⟩ = false
theorem RowF.drew {w : World} {g n : Nat} {f : Nat → Nat × Int} (h : RowF w g n f) : RowF w.drew g n f := ⟨h.addr, h.len, h.fr⟩
def updJ (f : Nat → Nat × Int) (k : Nat) (x : Nat × Int) : Nat → Nat × Int := fun j => if j = k then x else f j
theorem RowF.store {w : World} {g n : Nat} {f : Nat → Nat × Int} (h : RowF w g n f) (k : Nat) (hk : k < n) (x : Nat × Int) : RowF ((w.setCell ⟨g, k * 2, none⟩ (.int .u32 (x.1 : Int))).setCell ⟨g, k * 2 + 1, none⟩ (.int .i64 x.2)) g n (updJ f k x) := by
  have h0 := h.addr k hk
  have h1 := h.len k hk
  refine ⟨fun j hj => ?_, fun j hj => ?_, fun j => ?_⟩
  · by_cases e : j = k
    · subst e; simp [go_sem, updJ, h0]
    · simp [go_sem, updJ, e, h.addr j hj]
  · by_cases e : j = k
    · subst e; simp [go_sem, updJ, h1]
    · simp [go_sem, updJ, e, h.len j hj]
  · simp [go_sem, h.fr]
theorem comp_short (a : Option Addr) (n c : Nat) (w : World) (hn : n < 2) : Calls Try.prog 33 #[.slice a n c] w fun e w' => e = .returned (.slice a n c) ∧ w' = w := by
  have h1 : (n : Int) < 2 := by omega
  clear hn
  go_enter Try.func33, Try.ntmps33
  go_wp2
  go_ret
  exact ⟨rfl, rfl⟩
/-- What the second loop has done: m looked at, kk kept. -/
structure Cmp2 (d f : Nat → Nat × Int) (m kk : Nat) : Prop where
  lt : kk < m
  len : (compU d m).length = kk
  low : ∀ j, j < kk → (compU d m)[j]? = some (f j)
  high : ∀ j, m ≤ j + 1 → f j = d j
theorem Cmp2.start {d : Nat → Nat × Int} {k : Nat} (h : ∀ j, j < k → keptJ d j = true) (hk : keptJ d k = false) : Cmp2 d d (k + 1) k := by
  obtain ⟨h1, h2⟩ := compU_all k h
  refine ⟨by omega, ?_, ?_, fun j _ => rfl⟩
  · rw [compU_skip hk]; exact h1
  · rw [compU_skip hk]; exact h2
theorem Cmp2.skip {d f : Nat → Nat × Int} {m kk : Nat} (h : Cmp2 d f m kk) (hk : keptJ d m = false) : Cmp2 d f (m + 1) kk :=
  ⟨by have := h.lt; omega, by rw [compU_skip hk]; exact h.len, by rw [compU_skip hk]; exact h.low, fun j hj => h.high j (by omega)⟩
theorem Cmp2.keep {d f : Nat → Nat × Int} {m kk : Nat} (h : Cmp2 d f m kk) (hk : keptJ d m = true) : Cmp2 d (updJ f kk (d m)) (m + 1) (kk + 1) := by
  have := h.lt
  refine ⟨by omega, by rw [compU_keep hk, List.length_append, h.len]; rfl, fun j hj => ?_, fun j hj => ?_⟩
  · rw [compU_keep hk]
    unfold updJ
    by_cases e : j = kk
    · rw [if_pos e, e, List.getElem?_append_right (by rw [h.len]; omega), h.len]; simp
    · rw [if_neg e, List.getElem?_append_left (by rw [h.len]; omega)]; exact h.low j (by omega)
  · unfold updJ
    rw [if_neg (by omega)]
    exact h.high j (by omega)
/-- clear of a row's end. -/
theorem run_clearP (w : World) (ty : TypeId) (g n k c : Nat) (f : Nat → Nat × Int) (h : RowF w g n f) (hk : k < n) : ∃ Z : List Value, (Builtin.clear_ #[44] ty #[.slice (some ⟨g, k * 2, none⟩) (n - k) c]).run Try.prog w = .ok (.tuple #[]) (w.setCells g (k * 2) Z) := by
  obtain ⟨m, hm⟩ : ∃ m, n - k = m + 1 := ⟨n - k - 1, by omega⟩
  have hz : (zeroValue 29).run Try.prog w = .ok (.agg #[.int .u32 0, .int .i64 0]) w := by kernel_rfl
  have hsz : (Builtin.zeroCells #[.int .u32 0, .int .i64 0] (m + 1)).toList.length = (m + 1) * 2 := by simp [Builtin.zeroCells]
  have hone : ∀ v ∈ (Builtin.zeroCells #[.int .u32 0, .int .i64 0] (m + 1)).toList, v.oneCell' = true := by
    intro v hv
    simp only [Builtin.zeroCells, Array.toList_map, List.mem_map] at hv
    obtain ⟨i, _, rfl⟩ := hv
    have : i % 2 = 0 ∨ i % 2 = 1 := by omega
    rcases this with e | e
    · show (#[Value.int .u32 0, Value.int .i64 0][i % 2]!).oneCell' = true; rw [e]; rfl
    · show (#[Value.int .u32 0, Value.int .i64 0][i % 2]!).oneCell' = true; rw [e]; rfl
  have hst := run_storeCells_cells (P := Try.prog) g (k * 2) (Builtin.zeroCells #[.int .u32 0, .int .i64 0] (m + 1)).toList 0 w (fun j hj => by
    rw [hsz] at hj
    have e : k * 2 + 0 + j = (k + j / 2) * 2 ∨ k * 2 + 0 + j = (k + j / 2) * 2 + 1 := by omega
    rcases e with e | e
    · rw [e, h.addr (k + j / 2) (by omega)]; rfl
    · rw [e, h.len (k + j / 2) (by omega)]; rfl) (fun j _ => h.fr _) hone
  simp only [Nat.add_zero] at hst
  refine ⟨(Builtin.zeroCells #[.int .u32 0, .int .i64 0] (m + 1)).toList, ?_⟩
  rw [hm]
  simp [Builtin.clear_, run_underlying Try.underlying44, hz, hst, Value.cells]
/-- The prefixes ps lie at g from o on. -/
def PxAt (w : World) (g o : Nat) (ps : List (Nat × Int)) : Prop := ∀ i p, ps[i]? = some p → w.cell? ⟨g, o + i * 2, none⟩ = some (.int .u32 (p.1 : Int)) ∧ w.cell? ⟨g, o + i * 2 + 1, none⟩ = some (.int .i64 p.2)
theorem RowF.below {w w' : World} {g n : Nat} {f : Nat → Nat × Int} (h : RowF w g n f) (hb : Below w.heap.size w w') (hg : g < w.heap.size) : RowF w' g n f :=
  ⟨fun j hj => by rw [hb.cell (p := ⟨g, j * 2, none⟩) hg]; exact h.addr j hj, fun j hj => by rw [hb.cell (p := ⟨g, j * 2 + 1, none⟩) hg]; exact h.len j hj, fun j => by rw [World.frozen?_of_block (hb.block g hg)]; exact h.fr j⟩
theorem keptJ_pos {d : Nat → Nat × Int} {k : Nat} (h : d k ≠ d (k - 1)) : keptJ d k = true := by unfold keptJ; simp [h]
theorem keptJ_neg {d : Nat → Nat × Int} {k : Nat} (hk : 1 ≤ k) (h : d k = d (k - 1)) : keptJ d k = false := by unfold keptJ; simp [h]; omega
set_option maxHeartbeats 6400000 in
theorem comp_row (g n c : Nat) (d : Nat → Nat × Int) (w : World) (h2 : 2 ≤ n) (hn : n ≤ 100000) (hc : n ≤ c) (h : RowF w g n d) :
    Calls Try.prog 33 #[.slice (some ⟨g, 0, none⟩) n c] w fun e w' => e = .returned (.slice (some ⟨g, 0, none⟩) (compU d n).length c) ∧ PxAt w' g 0 (compU d n) ∧ Keeps (fun x => x = g) w w' := by
  have HH := hide h
  have hg : g < w.heap.size := by have := World.block_lt_of_cell? w _ (h.addr 0 (by omega)); simpa using this
  have d1 : decide ((n : Int) < 2) = false := decide_eq_false (by omega)
  clear h
  go_enter Try.func33, Try.ntmps33
  go_wp2
  go_loopw [3] (fun i wq => ∃ k : Nat, 1 ≤ k ∧ k ≤ n ∧ i = .int .i64 k ∧ Hid (∀ j, j < k → keptJ d j = true) ∧ Hid (Below w.heap.size w wq)) (fun i _ => n - (intOf i).toNat)
  case atStart => exact ⟨1, Nat.le_refl _, by omega, rfl, fun j hj => by unfold keptJ; rw [show j = 0 from by omega]; rfl, Below.refl _ _⟩
  case round =>
    obtain ⟨k, hk1, hk, rfl, HA, HB⟩ := hrel
    by_cases hlt : k < n
    · have hk0 : (0 : Int) ≤ (k : Int) := Int.natCast_nonneg _
      have hkn : (k : Int) < (n : Int) := by omega
      obtain ⟨q, hq⟩ : ∃ q : Nat, q = k - 1 := ⟨_, rfl⟩
      have hqk : (k : Int) - 1 = (q : Int) := by omega
      have hqn : (q : Int) < (n : Int) := by omega
      have HF := hide (HH.out.below HB.out hg)
      have c0 := HF.out.addr k hlt
      have c1 := HF.out.len k hlt
      have e0 := HF.out.addr q (by omega)
      have e1 := HF.out.len q (by omega)
      have zg : g < wr.heap.size := Nat.lt_of_lt_of_le hg HB.out.size
      have HQ := hide hq
      clear hq
      by_cases hdup : d k = d q
      · have HK : Hid (keptJ d k = false) := keptJ_neg hk1 (by rw [← HQ.out]; exact hdup)
        rw [hdup] at c0 c1
        have HD := hide hdup
        clear hdup
        generalize d q = x at *
        go_wp2_with fail
        go_quiet (fail)
        have HBd : Hid (Below w.heap.size w (wr.drewN nq)) := below_drewN HB.out nq
        generalize wr.drewN nq = wd at *
        clear HB HF c0 c1 e0 e1 zg
        have hck : ¬ c = k := by omega
        have hcn : (k : Int) ≤ (c : Int) := by omega
        have hkc : k ≤ c := by omega
        have HK2 : Hid (Keeps (fun x => x = g) w wd) := Keeps.of_below HBd.out _
        have HF2 := hide (HH.out.below HBd.out hg)
        have HC2 := hide (Cmp2.start HA.out HK.out)
        go_wp2
        obtain ⟨N2, hN2⟩ : ∃ N2, N2 = n - k := ⟨_, rfl⟩
        rw [← hN2]
        clear HA HQ HK HD
        go_loopw [3, 5] (fun i s wq => ∃ (kk k2 : Nat) (f : Nat → Nat × Int), i = .int .i64 kk ∧ s = .int .i64 k2 ∧ 1 ≤ k2 ∧ k2 ≤ N2 ∧ Hid (Cmp2 d f (k + k2) kk) ∧ Hid (RowF wq g n f) ∧ Hid (Keeps (fun x => x = g) w wq)) (fun _ s _ => N2 - (intOf s).toNat)
        case atStart => exact ⟨k, 1, d, rfl, rfl, Nat.le_refl _, by omega, HC2, HF2, HK2⟩
        case round =>
          obtain ⟨kk, k2, f, rfl, rfl, h21, h2n, HC, HF, HK⟩ := hrel
          by_cases hl2 : k2 < N2
          · have i0 : (0 : Int) ≤ (k2 : Int) := Int.natCast_nonneg _
            have i1 : (k2 : Int) < (N2 : Int) := by omega
            obtain ⟨q2, hq2⟩ : ∃ q2 : Nat, q2 = k2 - 1 := ⟨_, rfl⟩
            have j1 : (k2 : Int) - 1 = (q2 : Int) := by omega
            have j2 : (q2 : Int) < (N2 : Int) := by omega
            have hkk := HC.out.lt
            have hzw : g < wr.heap.size := Nat.lt_of_lt_of_le hg HK.out.size
            have c0 := HF.out.addr (k + k2) (by omega)
            have c1 := HF.out.len (k + k2) (by omega)
            have e0 := HF.out.addr (k + q2) (by omega)
            have e1 := HF.out.len (k + q2) (by omega)
            rw [HC.out.high (k + k2) (by omega), show (k + k2) * 2 = k * 2 + k2 * 2 from by omega] at c0
            rw [HC.out.high (k + k2) (by omega), show (k + k2) * 2 = k * 2 + k2 * 2 from by omega] at c1
            rw [HC.out.high (k + q2) (by omega), show (k + q2) * 2 = k * 2 + q2 * 2 from by omega] at e0
            rw [HC.out.high (k + q2) (by omega), show (k + q2) * 2 = k * 2 + q2 * 2 from by omega] at e1
            have HQ : Hid (k + q2 = k + k2 - 1) := by show _ = _; omega
            clear hq2
            by_cases hd2 : d (k + k2) = d (k + q2)
            · have HC3 : Hid (Cmp2 d f (k + (k2 + 1)) kk) := HC.out.skip (keptJ_neg (by omega) (by rw [← HQ.out]; exact hd2))
              rw [hd2] at c0 c1
              clear hd2
              generalize d (k + q2) = x at *
              go_wp2_with fail
              go_quiet (fail)
              have HF3 : Hid (RowF (wr.drewN nq) g n f) := HF.out.below (below_drewN (Below.refl _ wr) nq) hzw
              have HK3 : Hid (Keeps (fun x => x = g) w (wr.drewN nq)) := HK.out.trans (Keeps.of_below (below_drewN (Below.refl _ wr) nq) (fun _ => False)) (fun _ _ h => h.elim)
              generalize wr.drewN nq = wn at *
              go_wp2
              exact ⟨⟨kk, k2 + 1, f, rfl, by go_num, by omega, by omega, HC3, HF3, HK3⟩, by simp [intOf]; omega⟩
            · have HC3 : Hid (Cmp2 d (updJ f kk (d (k + k2))) (k + (k2 + 1)) (kk + 1)) := HC.out.keep (keptJ_pos (by rw [← HQ.out]; exact hd2))
              generalize d (k + k2) = x at *
              generalize d (k + q2) = y at *
              by_cases hA : x.1 = y.1
              · have hL : ¬ x.2 = y.2 := fun e => hd2 (Prod.ext hA e)
                have f1 : (x.2 == y.2) = false := by simpa using hL
                have f2 : (x.2 != y.2) = true := by simpa using hL
                rw [← hA] at e0
                clear hd2 hL hA
                go_wp2_with fail
                go_quiet (fail)
                have hbq := below_drewN (Below.refl wr.heap.size wr) nq
                have HF3 : Hid (RowF (wr.drewN nq) g n f) := HF.out.below hbq hzw
                have HK3 : Hid (Keeps (fun x => x = g) w (wr.drewN nq)) := HK.out.trans (Keeps.of_below hbq (fun _ => False)) (fun _ _ h => h.elim)
                have c0' : (wr.drewN nq).cell? ⟨g, k * 2 + k2 * 2, none⟩ = some (.int .u32 (x.1 : Int)) := by rw [hbq.cell (p := ⟨g, k * 2 + k2 * 2, none⟩) hzw]; exact c0
                have c1' : (wr.drewN nq).cell? ⟨g, k * 2 + k2 * 2 + 1, none⟩ = some (.int .i64 x.2) := by rw [hbq.cell (p := ⟨g, k * 2 + k2 * 2 + 1, none⟩) hzw]; exact c1
                have hz' : g < (wr.drewN nq).heap.size := hzw
                clear hbq c0 c1 e0 e1 hzw HF HK
                generalize wr.drewN nq = wn at *
                have r0 := HF3.out.addr kk (by omega)
                have r1 := HF3.out.len kk (by omega)
                have s0 := HF3.out.fr (kk * 2)
                have s1 := HF3.out.fr (kk * 2 + 1)
                have t0 : (0 : Int) ≤ (kk : Int) := Int.natCast_nonneg _
                have t1 : (kk : Int) < (n : Int) := by omega
                go_wp2
                exact ⟨⟨kk + 1, k2 + 1, _, by go_num, by go_num, by omega, by omega, HC3, HF3.out.store kk (by omega) x, (HK3.out.setCell g _ _ (.inl rfl)).setCell g _ _ (.inl rfl)⟩, by simp [intOf]; omega⟩
              · have f1 : (x.1 == y.1) = false := by simpa using hA
                have f2 : ((x.1 : Int) == (y.1 : Int)) = false := by simp; omega
                have f3 : ((x.1 : Int) != (y.1 : Int)) = true := by simp; omega
                clear hd2 hA
                go_wp2_with fail
                go_quiet (fail)
                have hbq := below_drewN (Below.refl wr.heap.size wr) nq
                have HF3 : Hid (RowF (wr.drewN nq) g n f) := HF.out.below hbq hzw
                have HK3 : Hid (Keeps (fun x => x = g) w (wr.drewN nq)) := HK.out.trans (Keeps.of_below hbq (fun _ => False)) (fun _ _ h => h.elim)
                have c0' : (wr.drewN nq).cell? ⟨g, k * 2 + k2 * 2, none⟩ = some (.int .u32 (x.1 : Int)) := by rw [hbq.cell (p := ⟨g, k * 2 + k2 * 2, none⟩) hzw]; exact c0
                have c1' : (wr.drewN nq).cell? ⟨g, k * 2 + k2 * 2 + 1, none⟩ = some (.int .i64 x.2) := by rw [hbq.cell (p := ⟨g, k * 2 + k2 * 2 + 1, none⟩) hzw]; exact c1
                have hz' : g < (wr.drewN nq).heap.size := hzw
                clear hbq c0 c1 e0 e1 hzw HF HK
                generalize wr.drewN nq = wn at *
                have r0 := HF3.out.addr kk (by omega)
                have r1 := HF3.out.len kk (by omega)
                have s0 := HF3.out.fr (kk * 2)
                have s1 := HF3.out.fr (kk * 2 + 1)
                have t0 : (0 : Int) ≤ (kk : Int) := Int.natCast_nonneg _
                have t1 : (kk : Int) < (n : Int) := by omega
                go_wp2
                exact ⟨⟨kk + 1, k2 + 1, _, by go_num, by go_num, by omega, by omega, HC3, HF3.out.store kk (by omega) x, (HK3.out.setCell g _ _ (.inl rfl)).setCell g _ _ (.inl rfl)⟩, by simp [intOf]; omega⟩
          · have hkk := HC.out.lt
            have hend : k + k2 = n := by omega
            obtain ⟨Z, hz⟩ := run_clearP wr 0 g n kk (c - kk) f HF.out (by omega)
            have hcl : ∀ ty, (Builtin.clear_ #[44] ty #[.slice (some ⟨g, kk * 2, none⟩) (n - kk) (c - kk)]).run Try.prog wr = .ok (.tuple #[]) (wr.setCells g (kk * 2) Z) := fun _ => hz
            have HLN : Hid ((compU d n).length = kk) := by show _ = _; rw [← hend]; exact HC.out.len
            have HP : Hid (PxAt (wr.setCells g (kk * 2) Z) g 0 (compU d n)) := fun i p hi => by
              have hil : i < kk := by have := (List.getElem?_eq_some_iff.1 hi).1; have := HLN.out; omega
              have h9 := HC.out.low i hil
              rw [hend, hi] at h9
              rw [Option.some.inj h9, Nat.zero_add]
              refine ⟨?_, ?_⟩
              · rw [World.cell?_setCells_out g Z (kk * 2) wr ⟨g, i * 2, none⟩ (fun _ _ => .inl (by show i * 2 < kk * 2; omega))]; exact HF.out.addr i (by omega)
              · rw [World.cell?_setCells_out g Z (kk * 2) wr ⟨g, i * 2 + 1, none⟩ (fun _ _ => .inl (by show i * 2 + 1 < kk * 2; omega))]; exact HF.out.len i (by omega)
            have HK4 : Hid (Keeps (fun x => x = g) w (wr.setCells g (kk * 2) Z)) := HK.out.setCells g _ _ (.inl rfl)
            have a1 : ¬ c = kk := by omega
            have a2 : kk ≤ c := by omega
            have a3 : kk ≤ n := by omega
            have a4 : (0 : Int) ≤ (kk : Int) := Int.natCast_nonneg _
            have a5 : (kk : Int) ≤ (n : Int) := by omega
            have a6 : (kk : Int) ≤ (c : Int) := by omega
            have b1 : decide ((k2 : Int) < (N2 : Int)) = false := decide_eq_false (by omega)
            have b2 : ¬ k2 < N2 := hl2
            clear hz HC HF HK hl2
            generalize wr.setCells g (kk * 2) Z = wz at *
            go_wp2
            go_ret
            exact ⟨by rw [HLN.out]; rfl, HP.out, HK4.out⟩
      · have HN : Hid (∀ j, j < k + 1 → keptJ d j = true) := fun j hj => by
          by_cases e : j = k
          · subst e; exact keptJ_pos (by rw [← HQ.out]; exact hdup)
          · exact HA.out j (by omega)
        generalize d k = x at *
        generalize d q = y at *
        by_cases hA : x.1 = y.1
        · have hL : ¬ x.2 = y.2 := fun e => hdup (Prod.ext hA e)
          have f1 : (x.2 == y.2) = false := by simpa using hL
          have f2 : (x.2 != y.2) = true := by simpa using hL
          rw [← hA] at e0
          clear hdup hL hA
          go_wp2_with fail
          go_quiet (fail)
          have HBd : Hid (Below w.heap.size w (wr.drewN nq)) := below_drewN HB.out nq
          generalize wr.drewN nq = wd at *
          go_wp2
          exact ⟨⟨k + 1, by omega, by omega, by go_num, HN, HBd⟩, by simp [intOf]; omega⟩
        · have f1 : (x.1 == y.1) = false := by simpa using hA
          have f2 : ((x.1 : Int) == (y.1 : Int)) = false := by simp; omega
          have f3 : ((x.1 : Int) != (y.1 : Int)) = true := by simp; omega
          clear hdup hA
          go_wp2_with fail
          go_quiet (fail)
          have HBd : Hid (Below w.heap.size w (wr.drewN nq)) := below_drewN HB.out nq
          generalize wr.drewN nq = wd at *
          go_wp2
          exact ⟨⟨k + 1, by omega, by omega, by go_num, HN, HBd⟩, by simp [intOf]; omega⟩
    · have hkn : k = n := by omega
      subst hkn
      obtain ⟨hl, hgt⟩ := compU_all k HA.out
      have HLN := hide hl
      have HF := hide (HH.out.below HB.out hg)
      have HP : Hid (PxAt wr g 0 (compU d k)) := fun i p hi => by
        have hil : i < k := by have := (List.getElem?_eq_some_iff.1 hi).1; have := HLN.out; omega
        have h9 := hgt i hil
        rw [hi] at h9
        rw [Option.some.inj h9, Nat.zero_add]
        exact ⟨HF.out.addr i hil, HF.out.len i hil⟩
      clear hl hgt
      go_wp2
      go_ret
      exact ⟨by rw [HLN.out]; rfl, HP.out, Keeps.of_below HB.out _⟩
end Go.Proofs.Ytjlmkaeepeamkaa
