/- TrieMany's walk. -/
import Derived.Test.YtfecknbneonidaaTrAn
import Derived.Test.YtfecknbneonidaaPfxRf
import Derived.Test.YtfecknbneonidaaMix
import Derived.Test.YtfecknbneonidaaPfxSp
namespace Go.Proofs.Ytfecknbneonidaa
open Go.RowKit
set_option maxRecDepth 100000

/-- The list l, in order, is what a trie has. -/
structure TrieHas (C : Nat → Nat → Option Int) (l : List (Nat × Nat)) : Prop where
  up : l.Pairwise lessP
  mem : ∀ x m, (x, m) ∈ l ↔ (C x m).isSome = true
theorem TrieHas.nil : TrieHas (fun _ _ => none) [] := ⟨List.Pairwise.nil, fun _ _ => by simp⟩
theorem TrieHas.all {w : World} {B : Nat} {N : Nat → Nat → Option Nat} {C : Nat → Nat → Option Int} {l : List (Nat × Nat)} (h : TrieHas C l) (ht : TrieIs w B N C) : allC C 32 0 0 = l := allC_is h.up (fun x m hs => ht.keyed x m hs) h.mem
theorem TrieHas.set {C : Nat → Nat → Option Int} {l : List (Nat × Nat)} (h : TrieHas C l) (a n : Nat) (v : Int) : TrieHas (upd C a n (some v)) (insP (a, n) l) := by
  refine ⟨insP_rising h.up, fun x m => ?_⟩
  rw [mem_insP, Prod.mk.injEq, h.mem]
  by_cases e : x = a ∧ m = n
  · rw [e.1, e.2, upd_self]; simp
  · rw [upd_ne _ _ _ _ _ _ e]
    exact ⟨fun h => h.resolve_left e, fun h => .inr h⟩
theorem TrieHas.drop {C : Nat → Nat → Option Int} {l : List (Nat × Nat)} {a n : Nat} (h : TrieHas C ((a, n) :: l)) : TrieHas (upd C a n none) l := by
  have hp := List.pairwise_cons.1 h.up
  refine ⟨hp.2, fun x m => ?_⟩
  by_cases e : x = a ∧ m = n
  · obtain ⟨rfl, rfl⟩ := e
    rw [upd_self]
    simp only [Option.isSome_none, Bool.false_eq_true, iff_false]
    exact fun h9 => lessP_asymm (hp.1 _ h9) (hp.1 _ h9)
  · rw [upd_ne _ _ _ _ _ _ e, ← h.mem, List.mem_cons, Prod.mk.injEq]
    exact ⟨fun h => .inr h, fun h => h.resolve_left e⟩
theorem key_right {a n : Nat} (h : Key a n) : rightB a (n : Int) = true := by
  rw [rightB_nat a n h.1]
  exact decide_eq_true h.2.1
theorem hasC_key {C : Nat → Nat → Option Int} {a n : Nat} (h : Key a n) : hasC C a (n : Int) = C a n := by
  unfold hasC
  rw [if_pos (key_right h), Int.toNat_natCast]
theorem dropC_key {C : Nat → Nat → Option Int} {a n : Nat} (h : Key a n) : dropC C a (n : Int) = upd C a n none := by
  unfold dropC
  rw [if_pos (key_right h), Int.toNat_natCast]
theorem upd_twice {C : Nat → Nat → Option Int} {a n : Nat} {x y : Option Int} : upd (upd C a n x) a n y = upd C a n y := by
  funext u v
  by_cases e : u = a ∧ v = n
  · rw [e.1, e.2, upd_self, upd_self]
  · rw [upd_ne _ _ _ _ _ _ e, upd_ne _ _ _ _ _ _ e, upd_ne _ _ _ _ _ _ e]
set_option maxHeartbeats 3200000 in
theorem trieMany_in (q : Int) (k D : Nat) (w : World) (hD : D < 4294967296) (hk : k < 60) (hq : q.tmod 60 = (k : Int)) : Calls Try.prog 6 #[.int .u8 q, .int .u32 (D : Int)] w fun e w' => e = .returned (.bool true) ∧ Below w.heap.size w w' := by
  go_enter Try.func6, Try.ntmps6
  go_wp2_with fail
  refine (new_any _).mono ?_
  rintro e w1 ⟨rfl, rfl⟩
  have HT := hide (trie_new w 55)
  have HB1 : Hid (Below w.heap.size w (w.alloc (.cells #[.pointer none, .pointer none, .bool false, .int .i64 0] 55))) := (Below.refl _ _).alloc (Nat.le_refl _) _
  generalize w.alloc (.cells #[.pointer none, .pointer none, .bool false, .int .i64 0] 55) = w1 at *
  go_wp2
  go_loopw [7] (fun i wq => ∃ (j : Nat) (N : Nat → Nat → Option Nat) (C : Nat → Nat → Option Int) (l : List (Nat × Nat)), j ≤ k ∧ i = .int .i64 j ∧ Hid (TrieIs wq w.heap.size N C) ∧ Hid (TrieHas C l) ∧ Hid (l.length ≤ j ∧ (0 < j → 0 < l.length)) ∧ Hid (Below w.heap.size w wq) ∧ Hid (∀ b, Blk N b → w.heap.size ≤ b)) (fun i _ => k - (intOf i).toNat)
  case atStart => exact ⟨0, _, _, [], Nat.zero_le _, rfl, HT, TrieHas.nil, ⟨Nat.le_refl _, fun h => absurd h (by omega)⟩, HB1, fun b hb => by obtain ⟨x, y, h⟩ := hb; obtain ⟨_, _, rfl⟩ := oneN_some h; exact Nat.le_refl _⟩
  case round =>
    clear HT HB1
    obtain ⟨j, N, C, l, hj, rfl, HT, HH, HL, HB, HN⟩ := hrel
    by_cases hlt : j < k
    · have hji : (j : Int) < (k : Int) := by omega
      obtain ⟨r, hr⟩ : ∃ r : Nat, r = j % 20 := ⟨_, rfl⟩
      have hr20 : r < 20 := by omega
      have hrt : ((j : Int)).tmod 20 = (r : Int) := by rw [Int.tmod_eq_emod_of_nonneg (by omega)]; omega
      obtain ⟨A, hA⟩ : ∃ A : Nat, A = (D + j * 1048576) % 4294967296 := ⟨_, rfl⟩
      have hA2 : A < 4294967296 := by omega
      have HMk : Hid (∀ w1 : World, Calls Try.prog 18 #[.int .u32 (((D : Int) + (j : Int) * 1048576) % 4294967296), .int .i64 (12 + (r : Int))] w1 fun e w' => e = .returned (.tuple #[.agg #[.int .u32 (cutTo A (12 + r) : Int), .int .i64 (12 + (r : Int))], .bool true]) ∧ Below w1.heap.size w1 w') := fun w1 => by
        have := rmake_in A (12 + r) w1 hA2 (by omega)
        unfold pfx at this
        rw [show ((12 + r : Nat) : Int) = 12 + (r : Int) from by omega, show (A : Int) = ((D : Int) + (j : Int) * 1048576) % 4294967296 from by omega] at this
        exact this
      have HSet : Hid (∀ w1 : World, TrieIs w1 w.heap.size N C → Calls Try.prog 11 #[.pointer (some ⟨w.heap.size, 0, none⟩), .agg #[.int .u32 (cutTo A (12 + r) : Int), .int .i64 (12 + (r : Int))], .int .i64 (j : Int)] w1 fun e w' => e = .returned (.bool true) ∧ ∃ N', TrieIs w' w.heap.size N' (upd C (cutTo A (12 + r)) (12 + r) (some (j : Int))) ∧ Keeps (Blk N) w1 w' ∧ ∀ b, Blk N' b → Blk N b ∨ w1.heap.size ≤ b) := fun w1 h1 => by
        have := set_right (cutTo A (12 + r)) (12 + r) w.heap.size (j : Int) w1 N C (cutTo_lt _ _ hA2) (rightB_cut _ _ (by omega)) h1
        unfold pfx at this
        rw [show ((12 + r : Nat) : Int) = 12 + (r : Int) from by omega] at this
        exact this
      have HH2 : Hid (TrieHas (upd C (cutTo A (12 + r)) (12 + r) (some (j : Int))) (insP (cutTo A (12 + r), 12 + r) l)) := HH.out.set _ _ _
      have HL2 : Hid ((insP (cutTo A (12 + r), 12 + r) l).length ≤ j + 1 ∧ (0 < j + 1 → 0 < (insP (cutTo A (12 + r), 12 + r) l).length)) := by
        have h1 := insP_length (p := (cutTo A (12 + r), 12 + r)) (l := l)
        have h2 := HL.out.1
        exact ⟨by omega, fun _ => h1.2⟩
      generalize insP (cutTo A (12 + r), 12 + r) l = l2 at *
      clear hr hA
      generalize cutTo A (12 + r) = X at *
      go_wp2_with fail
      refine (HMk.out wr).mono ?_
      rintro e w2 ⟨rfl, hb2⟩
      have HT2 : Hid (TrieIs (w2.alloc (.cells #[.int .u32 (X : Int), .int .i64 (12 + (r : Int))] 31)) w.heap.size N C) := (HT.out.later hb2).later ((Below.refl _ _).alloc (Nat.le_refl _) _)
      have HB2 : Hid (Below w.heap.size w (w2.alloc (.cells #[.int .u32 (X : Int), .int .i64 (12 + (r : Int))] 31))) := (HB.out.trans (hb2.mono HB.out.size)).alloc (by have := HB.out.size; have := hb2.size; omega) _
      clear hb2
      go_wp2_with fail
      refine (HSet.out _ HT2.out).mono ?_
      rintro e w3 ⟨rfl, N3, ht3, hk3, hs3⟩
      have HT3 := hide ht3
      have HB3 : Hid (Below w.heap.size w w3) := HB2.out.trans (hk3.below _ HB2.out.size HN.out)
      have HN3 : Hid (∀ b, Blk N3 b → w.heap.size ≤ b) := fun b hb => by
        rcases hs3 b hb with h | h
        · exact HN.out b h
        · have := HB2.out.size; omega
      clear ht3 hk3 hs3
      go_wp2
      exact ⟨⟨j + 1, N3, _, l2, by omega, by go_num, HT3, HH2, HL2, HB3, HN3⟩, by simp [intOf]; omega⟩
    · obtain rfl : j = k := by omega
      have d1 : decide ((j : Int) < (j : Int)) = false := decide_eq_false (by omega)
      have HAl : Hid (allC C 32 0 0 = l) := HH.out.all HT.out
      have hll : l.length ≤ 60 := by have := HL.out.1; omega
      have ha := all_any w.heap.size wr N C HT.out (by rw [HAl.out]; omega)
      rw [HAl.out] at ha
      have HA := hide ha
      clear ha hlt hj
      go_wp2_with fail
      refine HA.out.mono ?_
      rintro e w2 ⟨v2, rfl, ho2, hb2⟩
      obtain ⟨a5, c5, rfl⟩ := slice_of ho2
      have HBase : Hid (∀ b, Blk N b → b < wr.heap.size) := fun b hb => HT.out.lt b hb
      have HO2 := hide ho2
      have HT2 : Hid (TrieIs w2 w.heap.size N C) := HT.out.later hb2
      have HB2 : Hid (Below w.heap.size w w2) := HB.out.trans (hb2.mono HB.out.size)
      clear ho2 hb2 HA HT HB
      generalize hn : l.length = n at *
      have HNl := hide hn
      clear hn
      generalize wr.heap.size = H0 at *
      go_wp2
      go_loopw [11] (fun i wq => ∃ (m : Nat) (N : Nat → Nat → Option Nat) (C : Nat → Nat → Option Int), m ≤ n ∧ i = .int .i64 m ∧ Hid (TrieIs wq w.heap.size N C) ∧ Hid (TrieHas C (l.drop m)) ∧ Hid (Below w.heap.size w wq) ∧ Hid (∀ b, Blk N b → w.heap.size ≤ b ∧ b < H0) ∧ Hid (wq.ownsRow H0 31 2 (.slice a5 n c5) n (pcells l))) (fun i _ => n - (intOf i).toNat)
      case atStart => exact ⟨0, N, C, Nat.zero_le _, rfl, HT2, HH, HB2, fun b hb => ⟨HN.out b hb, HBase.out b hb⟩, HO2⟩
      case round =>
        clear HT2 HB2 HO2 HN HBase HAl
        have HUp := hide HH.out.up
        clear HH
        obtain ⟨m, N, C, hm, rfl, HT, HH, HB, HN, HO⟩ := hrel
        by_cases hlt : m < n
        · obtain ⟨g, c, hv, _, _⟩ := HO.out.form (by omega)
          obtain ⟨rfl, rfl⟩ : a5 = some ⟨g, 0, none⟩ ∧ c5 = c := by cases hv; exact ⟨rfl, rfl⟩
          clear hv
          have hml : m < l.length := by rw [HNl.out]; exact hlt
          obtain ⟨⟨X, L⟩, hp⟩ : ∃ p, l[m]? = some p := ⟨l[m], by simp [hml]⟩
          have hdr : l.drop m = (X, L) :: l.drop (m + 1) := by rw [List.drop_eq_getElem_cons hml]; simp [List.getElem?_eq_getElem hml] at hp; rw [hp]
          have hks : (C X L).isSome = true := (HH.out.mem X L).1 (by rw [hdr]; exact List.mem_cons_self)
          have hkey := HT.out.keyed X L hks
          have x0 : wr.cell? ⟨g, m * 2, none⟩ = some (.int .u32 (X : Int)) := by rw [HO.out.cellAt (m * 2) (by omega)]; exact (spcells_get l m _ hp).1
          have x1 : wr.cell? ⟨g, m * 2 + 1, none⟩ = some (.int .i64 (L : Int)) := by rw [HO.out.cellAt (m * 2 + 1) (by omega)]; exact (spcells_get l m _ hp).2
          have HH2 : Hid (TrieHas (upd C X L none) (l.drop (m + 1))) := by have := HH.out; rw [hdr] at this; exact this.drop
          have D1 : Hid (∀ w1 : World, TrieIs w1 w.heap.size N C → Calls Try.prog 10 #[.pointer (some ⟨w.heap.size, 0, none⟩), .agg #[.int .u32 (X : Int), .int .i64 (L : Int)]] w1 fun e w' => e = .returned (.bool true) ∧ ∃ N', TrieIs w' w.heap.size N' (upd C X L none) ∧ Keeps (Blk N) w1 w' ∧ ∀ b, Blk N' b → Blk N b) := fun w1 h1 => by
            have := drop_any X w.heap.size (L : Int) w1 N C hkey.2.2 h1
            rw [hasC_key hkey, dropC_key hkey, hks] at this
            exact this
          have D2 : Hid (∀ (w1 : World) (N1 : Nat → Nat → Option Nat), TrieIs w1 w.heap.size N1 (upd C X L none) → Calls Try.prog 10 #[.pointer (some ⟨w.heap.size, 0, none⟩), .agg #[.int .u32 (X : Int), .int .i64 (L : Int)]] w1 fun e w' => e = .returned (.bool false) ∧ ∃ N', TrieIs w' w.heap.size N' (upd C X L none) ∧ Keeps (Blk N1) w1 w' ∧ ∀ b, Blk N' b → Blk N1 b) := fun w1 N1 h1 => by
            have := drop_any X w.heap.size (L : Int) w1 N1 _ hkey.2.2 h1
            rw [hasC_key hkey, dropC_key hkey, upd_self, upd_twice] at this
            exact this
          have hgz := (World.block_lt_of_cell? wr _ x0 : g < wr.heap.size)
          have HG : Hid (H0 ≤ g) := (own_lt HO.out g rfl).1
          have hmi : (m : Int) < (n : Int) := by omega
          have hm0 : (0 : Int) ≤ (m : Int) := by omega
          have HNG : Hid (¬ Blk N g) := fun h => by have h1 := (HN.out g h).2; have h2 := HG.out; omega
          by_cases h0 : m = 0
          · subst h0
            simp only [Nat.zero_mul, Nat.zero_add] at x0 x1
            clear hks hkey hdr hp hml HH
            go_wp2_with fail
            refine region_mix (fun w' => w'.cell? ⟨g, 0, none⟩ = some (.int .u32 (X : Int)) ∧ w'.cell? ⟨g, 1, none⟩ = some (.int .i64 (L : Int))) (fun k => k == 12 || k == 21 || k == 30) (by kernel_rfl) (by kernel_rfl) (by kernel_rfl) ⟨x0, x1⟩ ?_
            repeat (first | refine mix_q (by rfl) (by rfl) (fun w9 h9 => (by obtain ⟨s0, s1⟩ := h9; go_simp; first | done | rfl)) (by go_simp; first | done | rfl) ?_ | refine mix_s (by rfl) (by rfl) (by go_simp; first | done | rfl) ?_)
            refine mix_ls (by rfl) (by rfl) (by rfl) (by go_simp; first | done | rfl) ⟨x0, x1⟩ ?_
            repeat (first | refine mix_q (by rfl) (by rfl) (fun w9 h9 => (by obtain ⟨s0, s1⟩ := h9; go_simp; first | done | rfl)) (by go_simp; first | done | rfl) ?_ | refine mix_s (by rfl) (by rfl) (by go_simp; first | done | rfl) ?_)
            refine mix_l (by rfl) (by rfl) (by rfl) ?_
            go_simp
            refine (D1.out wr.drew (HT.out.of_blocks fun _ _ => rfl)).mono ?_
            rintro e w3 ⟨rfl, N3, ht3, hk3, hs3⟩
            have yx0 : w3.cell? ⟨g, 0, none⟩ = some (.int .u32 (X : Int)) := by rw [hk3.cell ⟨g, 0, none⟩ (by exact hgz) HNG.out]; exact x0
            have yx1 : w3.cell? ⟨g, 1, none⟩ = some (.int .i64 (L : Int)) := by rw [hk3.cell ⟨g, 1, none⟩ (by exact hgz) HNG.out]; exact x1
            have HT3 := hide ht3
            have HB3 : Hid (Below w.heap.size w w3) := (HB.out.drew).trans (hk3.below _ (HB.out.drew).size fun b hb => (HN.out b hb).1)
            have HK3 : Hid (Keeps (Blk N) wr.drew w3) := hk3
            have HS3 := hide hs3
            have hgz3 : g < w3.heap.size := Nat.lt_of_lt_of_le hgz hk3.size
            clear ht3 hk3 hs3
            refine ⟨⟨yx0, yx1⟩, ?_⟩
            repeat (first | refine mix_q (by rfl) (by rfl) (fun w9 h9 => (by obtain ⟨s0, s1⟩ := h9; go_simp; first | done | rfl)) (by go_simp; first | done | rfl) ?_ | refine mix_s (by rfl) (by rfl) (by go_simp; first | done | rfl) ?_)
            refine mix_l (by rfl) (by rfl) (by rfl) ?_
            go_simp
            refine (D2.out w3 N3 HT3.out).mono ?_
            rintro e w4 ⟨rfl, N4, ht4, hk4, hs4⟩
            have HNG3 : Hid (¬ Blk N3 g) := fun h => HNG.out (HS3.out g h)
            have zx0 : w4.cell? ⟨g, 0, none⟩ = some (.int .u32 (X : Int)) := by rw [hk4.cell ⟨g, 0, none⟩ (by exact hgz3) HNG3.out]; exact yx0
            have zx1 : w4.cell? ⟨g, 1, none⟩ = some (.int .i64 (L : Int)) := by rw [hk4.cell ⟨g, 1, none⟩ (by exact hgz3) HNG3.out]; exact yx1
            have HT4 := hide ht4
            have HB4 : Hid (Below w.heap.size w w4) := HB3.out.trans (hk4.below _ HB3.out.size fun b hb => (HN.out b (HS3.out b hb)).1)
            have HN4 : Hid (∀ b, Blk N4 b → w.heap.size ≤ b ∧ b < H0) := fun b hb => HN.out b (HS3.out b (hs4 b hb))
            have HO4 : Hid (w4.ownsRow H0 31 2 (.slice (some ⟨g, 0, none⟩) n c5) n (pcells l)) := own_keep (own_keep (own_keep HO.out (Keeps.refl (fun _ => False) wr).drew (fun _ _ h => h)) HK3.out fun b hb => by cases hb; exact HNG.out) hk4 fun b hb => by cases hb; exact HNG3.out
            clear ht4 hk4 hs4
            refine ⟨⟨zx0, zx1⟩, ?_⟩
            repeat (first | refine mix_q (by rfl) (by rfl) (fun w9 h9 => (by obtain ⟨s0, s1⟩ := h9; go_simp; first | done | rfl)) (by go_simp; first | done | rfl) ?_ | refine mix_s (by rfl) (by rfl) (by go_simp; first | done | rfl) ?_)
            refine ⟨fun _ h => (by cases h), ?_⟩
            go_wp2
            exact ⟨⟨1, N4, _, by omega, rfl, HT4, HH2, HB4, HN4, HO4⟩, by simp [intOf] <;> omega⟩
          · obtain ⟨p, rfl⟩ : ∃ p, m = p + 1 := ⟨m - 1, by omega⟩
            obtain ⟨⟨Y, M⟩, hp2⟩ : ∃ q, l[p]? = some q := ⟨l[p], by simp⟩
            have u0 : wr.cell? ⟨g, p * 2, none⟩ = some (.int .u32 (Y : Int)) := by rw [HO.out.cellAt (p * 2) (by omega)]; exact (spcells_get l p _ hp2).1
            have u1 : wr.cell? ⟨g, p * 2 + 1, none⟩ = some (.int .i64 (M : Int)) := by rw [HO.out.cellAt (p * 2 + 1) (by omega)]; exact (spcells_get l p _ hp2).2
            have hls : lessB Y (M : Int) X (L : Int) = true := by
              have h1 := List.pairwise_iff_getElem.1 HUp.out p (p + 1) (by omega) hml (by omega)
              rw [List.getElem?_eq_getElem (by omega)] at hp2
              rw [List.getElem?_eq_getElem hml] at hp
              simp only [Option.some.injEq] at hp hp2
              rw [hp2, hp] at h1
              unfold lessB
              refine decide_eq_true ?_
              unfold lessP at h1
              simp only at h1
              omega
            have hl := fun w1 => less_any Y X (M : Int) (L : Int) w1
            rw [hls] at hl
            unfold pfx at hl
            have HLs := hide hl
            have hpi : (p : Int) < (n : Int) := by omega
            have hpi2 : (p : Int) + 1 < (n : Int) := by omega
            have hp60 : (p : Int) < 60 := by omega
            have hw1 : IntKind.i64.wrap ((p : Int) + 1 - 1) = (p : Int) := by rw [IntKind.wrap_i64]; omega
            have hw2 : IntKind.i64.wrap (p : Int) = (p : Int) := by rw [IntKind.wrap_i64]; omega
            clear hks hkey hdr hp hp2 hml HH hls hl h0
            go_wp2_with fail
            refine region_mix (fun w' => w'.cell? ⟨g, (p + 1) * 2, none⟩ = some (.int .u32 (X : Int)) ∧ w'.cell? ⟨g, (p + 1) * 2 + 1, none⟩ = some (.int .i64 (L : Int)) ∧ w'.cell? ⟨g, p * 2, none⟩ = some (.int .u32 (Y : Int)) ∧ w'.cell? ⟨g, p * 2 + 1, none⟩ = some (.int .i64 (M : Int))) (fun k => k == 12 || k == 21 || k == 30) (by kernel_rfl) (by kernel_rfl) (by kernel_rfl) ⟨x0, x1, u0, u1⟩ ?_
            repeat (first | refine mix_q (by rfl) (by rfl) (fun w9 h9 => (by obtain ⟨s0, s1, s2, s3⟩ := h9; go_simp; first | done | rfl)) (by go_simp; first | done | rfl) ?_ | refine mix_s (by rfl) (by rfl) (by go_simp; first | done | rfl) ?_)
            refine mix_l (by rfl) (by rfl) (by rfl) ?_
            go_simp
            refine (HLs.out wr.drew).mono ?_
            rintro e w2 ⟨rfl, hb2⟩
            have rx0 : w2.cell? ⟨g, (p + 1) * 2, none⟩ = some (.int .u32 (X : Int)) := by rw [hb2.cell (p := ⟨g, (p + 1) * 2, none⟩) (by exact hgz)]; exact x0
            have rx1 : w2.cell? ⟨g, (p + 1) * 2 + 1, none⟩ = some (.int .i64 (L : Int)) := by rw [hb2.cell (p := ⟨g, (p + 1) * 2 + 1, none⟩) (by exact hgz)]; exact x1
            have ru0 : w2.cell? ⟨g, p * 2, none⟩ = some (.int .u32 (Y : Int)) := by rw [hb2.cell (p := ⟨g, p * 2, none⟩) (by exact hgz)]; exact u0
            have ru1 : w2.cell? ⟨g, p * 2 + 1, none⟩ = some (.int .i64 (M : Int)) := by rw [hb2.cell (p := ⟨g, p * 2 + 1, none⟩) (by exact hgz)]; exact u1
            have HT2 : Hid (TrieIs w2 w.heap.size N C) := (show TrieIs wr.drew w.heap.size N C from HT.out.of_blocks fun _ _ => rfl).later hb2
            have HB2 : Hid (Below w.heap.size w w2) := HB.out.drew.trans (hb2.mono HB.out.size)
            have HO2 := hide (own_later (own_keep HO.out (Keeps.refl (fun _ => False) wr).drew (fun _ _ h => h)) hb2)
            have hgz2 : g < w2.heap.size := Nat.lt_of_lt_of_le hgz hb2.size
            clear hb2
            refine ⟨⟨rx0, rx1, ru0, ru1⟩, ?_⟩
            repeat (first | refine mix_q (by rfl) (by rfl) (fun w9 h9 => (by obtain ⟨s0, s1, s2, s3⟩ := h9; go_simp; first | done | rfl)) (by go_simp; first | done | rfl) ?_ | refine mix_s (by rfl) (by rfl) (by go_simp; first | done | rfl) ?_)
            refine mix_l (by rfl) (by rfl) (by rfl) ?_
            go_simp
            refine (D1.out w2 HT2.out).mono ?_
            rintro e w3 ⟨rfl, N3, ht3, hk3, hs3⟩
            have yrx0 : w3.cell? ⟨g, (p + 1) * 2, none⟩ = some (.int .u32 (X : Int)) := by rw [hk3.cell ⟨g, (p + 1) * 2, none⟩ (by exact hgz2) HNG.out]; exact rx0
            have yrx1 : w3.cell? ⟨g, (p + 1) * 2 + 1, none⟩ = some (.int .i64 (L : Int)) := by rw [hk3.cell ⟨g, (p + 1) * 2 + 1, none⟩ (by exact hgz2) HNG.out]; exact rx1
            have yru0 : w3.cell? ⟨g, p * 2, none⟩ = some (.int .u32 (Y : Int)) := by rw [hk3.cell ⟨g, p * 2, none⟩ (by exact hgz2) HNG.out]; exact ru0
            have yru1 : w3.cell? ⟨g, p * 2 + 1, none⟩ = some (.int .i64 (M : Int)) := by rw [hk3.cell ⟨g, p * 2 + 1, none⟩ (by exact hgz2) HNG.out]; exact ru1
            have HT3 := hide ht3
            have HB3 : Hid (Below w.heap.size w w3) := (HB2.out).trans (hk3.below _ (HB2.out).size fun b hb => (HN.out b hb).1)
            have HK3 : Hid (Keeps (Blk N) w2 w3) := hk3
            have HS3 := hide hs3
            have hgz3 : g < w3.heap.size := Nat.lt_of_lt_of_le hgz2 hk3.size
            clear ht3 hk3 hs3
            refine ⟨⟨yrx0, yrx1, yru0, yru1⟩, ?_⟩
            repeat (first | refine mix_q (by rfl) (by rfl) (fun w9 h9 => (by obtain ⟨s0, s1, s2, s3⟩ := h9; go_simp; first | done | rfl)) (by go_simp; first | done | rfl) ?_ | refine mix_s (by rfl) (by rfl) (by go_simp; first | done | rfl) ?_)
            refine mix_l (by rfl) (by rfl) (by rfl) ?_
            go_simp
            refine (D2.out w3 N3 HT3.out).mono ?_
            rintro e w4 ⟨rfl, N4, ht4, hk4, hs4⟩
            have HNG3 : Hid (¬ Blk N3 g) := fun h => HNG.out (HS3.out g h)
            have zrx0 : w4.cell? ⟨g, (p + 1) * 2, none⟩ = some (.int .u32 (X : Int)) := by rw [hk4.cell ⟨g, (p + 1) * 2, none⟩ (by exact hgz3) HNG3.out]; exact yrx0
            have zrx1 : w4.cell? ⟨g, (p + 1) * 2 + 1, none⟩ = some (.int .i64 (L : Int)) := by rw [hk4.cell ⟨g, (p + 1) * 2 + 1, none⟩ (by exact hgz3) HNG3.out]; exact yrx1
            have zru0 : w4.cell? ⟨g, p * 2, none⟩ = some (.int .u32 (Y : Int)) := by rw [hk4.cell ⟨g, p * 2, none⟩ (by exact hgz3) HNG3.out]; exact yru0
            have zru1 : w4.cell? ⟨g, p * 2 + 1, none⟩ = some (.int .i64 (M : Int)) := by rw [hk4.cell ⟨g, p * 2 + 1, none⟩ (by exact hgz3) HNG3.out]; exact yru1
            have HT4 := hide ht4
            have HB4 : Hid (Below w.heap.size w w4) := HB3.out.trans (hk4.below _ HB3.out.size fun b hb => (HN.out b (HS3.out b hb)).1)
            have HN4 : Hid (∀ b, Blk N4 b → w.heap.size ≤ b ∧ b < H0) := fun b hb => HN.out b (HS3.out b (hs4 b hb))
            have HO4 : Hid (w4.ownsRow H0 31 2 (.slice (some ⟨g, 0, none⟩) n c5) n (pcells l)) := own_keep (own_keep HO2.out HK3.out fun b hb => by cases hb; exact HNG.out) hk4 fun b hb => by cases hb; exact HNG3.out
            clear ht4 hk4 hs4
            refine ⟨⟨zrx0, zrx1, zru0, zru1⟩, ?_⟩
            repeat (first | refine mix_q (by rfl) (by rfl) (fun w9 h9 => (by obtain ⟨s0, s1, s2, s3⟩ := h9; go_simp; first | done | rfl)) (by go_simp; first | done | rfl) ?_ | refine mix_s (by rfl) (by rfl) (by go_simp; first | done | rfl) ?_)
            refine ⟨fun _ h => (by cases h), ?_⟩
            go_wp2
            exact ⟨⟨p + 1 + 1, N4, _, by omega, by go_num, HT4, HH2, HB4, HN4, HO4⟩, by simp [intOf]; omega⟩
        · obtain rfl : m = n := by omega
          have d2 : decide ((m : Int) < (m : Int)) = false := decide_eq_false (by omega)
          have HE : Hid (l.drop m = []) := List.drop_eq_nil_of_le (by rw [HNl.out]; exact Nat.le_refl _)
          have hno : ∀ x y, C x y = none := fun x y => by
            cases e : C x y with
            | none => rfl
            | some v =>
              have := (HH.out.mem x y).2 (by rw [e]; rfl)
              rw [HE.out] at this
              cases this
          have hlg : ∀ k, longC C D k = none := fun k => by
            induction k with
            | zero => rfl
            | succ k ih => rw [longC_none (hno _ _)]; exact ih
          have hf := find_any D w.heap.size wr N C hD HT.out
          rw [hlg 33] at hf
          have HF := hide hf
          have hal : allC C 32 0 0 = [] := by have := HH.out.all HT.out; rw [HE.out] at this; exact this
          have ha := fun w1 (h1 : TrieIs w1 w.heap.size N C) => all_any w.heap.size w1 N C h1 (by rw [hal]; simp)
          rw [hal] at ha
          have HA := hide ha
          have hll2 : (m : Int) ≤ (j : Int) := by have := HL.out.1; omega
          clear hno hlg hf hal ha hm
          go_wp2_with fail
          refine HF.out.mono ?_
          rintro e w2 ⟨rfl, hb2⟩
          have HB2 : Hid (Below w.heap.size w w2) := HB.out.trans (hb2.mono HB.out.size)
          have HT2 : Hid (TrieIs w2 w.heap.size N C) := HT.out.later hb2
          clear hb2
          unfold pfx
          generalize cutTo D (bitsL none) = Y0
          generalize bitsL none = Y1
          have HT3 : Hid (TrieIs (w2.alloc (.cells #[.int .u32 (Y0 : Int), .int .i64 (Y1 : Int)] 31)) w.heap.size N C) := HT2.out.later ((Below.refl _ _).alloc (Nat.le_refl _) _)
          have HB3 : Hid (Below w.heap.size w (w2.alloc (.cells #[.int .u32 (Y0 : Int), .int .i64 (Y1 : Int)] 31))) := HB2.out.alloc HB2.out.size _
          go_wp2_with fail
          generalize (w2.alloc (.cells #[.int .u32 (Y0 : Int), .int .i64 (Y1 : Int)] 31)) = w3 at *
          refine (answers_any _).mono ?_
          rintro e w4 ⟨rfl, hb4⟩
          have HB4 : Hid (Below w.heap.size w w4) := HB3.out.trans (hb4.mono HB3.out.size)
          have HT4 : Hid (TrieIs w4 w.heap.size N C) := HT3.out.later hb4
          clear hb4
          by_cases hm0 : m = 0
          · obtain rfl : j = 0 := by
              have h2 := HL.out.2
              omega
            subst hm0
            go_wp2_with fail
            refine (HA.out w4 HT4.out).mono ?_
            rintro e w5 ⟨v5, rfl, ho5, hb5⟩
            have HB5 : Hid (Below w.heap.size w w5) := HB4.out.trans (hb5.mono HB4.out.size)
            obtain ⟨a6, c6, rfl⟩ := slice_of ho5
            clear ho5 hb5
            go_wp2
            go_ret
            exact ⟨rfl, HB5.out⟩
          · have hm1 : (0 : Int) < (m : Int) := by omega
            have hj1 : (0 : Int) < (j : Int) := by omega
            go_wp2_with fail
            refine (HA.out w4 HT4.out).mono ?_
            rintro e w5 ⟨v5, rfl, ho5, hb5⟩
            have HB5 : Hid (Below w.heap.size w w5) := HB4.out.trans (hb5.mono HB4.out.size)
            obtain ⟨a6, c6, rfl⟩ := slice_of ho5
            clear ho5 hb5
            go_wp2
            go_ret
            exact ⟨rfl, HB5.out⟩
theorem trieMany_walk (n a : Int) (hn : (Lit.int .u8 n).wf = true) (ha : (Lit.int .u32 a).wf = true) (w : World) : Calls Try.prog 6 #[.int .u8 n, .int .u32 a] w fun e w' => e = .returned (.bool true) ∧ Below w.heap.size w w' := by
  have h1 := bounds_u32 ha
  have h2 := bounds_u8 hn
  obtain ⟨D, rfl⟩ := Int.eq_ofNat_of_zero_le (show 0 ≤ a by omega)
  have h3 := Int.tmod_lt_of_pos n (show (0 : Int) < 60 by omega)
  have h4 := Int.tmod_nonneg 60 (show 0 ≤ n by omega)
  exact trieMany_in n (n.tmod 60).toNat D w (by omega) (by omega) (by omega)
end Go.Proofs.Ytfecknbneonidaa
