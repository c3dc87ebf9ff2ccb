/- The log in plain numbers: superblocks, regions, Open, Append, Checkpoint. -/
import Derived.Test.YtbecchoidglaeaaRegB
namespace Go.Proofs.Ytbecchoidglaeaa
open Go.RowKit
set_option maxRecDepth 100000

/-- How many sectors a region has. -/
def half (n : Nat) : Nat := (n - 2) / 2
/-- Where a generation's region begins, and ends. -/
def fromOf (n g : Nat) : Nat := if g % 2 = 0 then 2 else 2 + half n
def toOf (n g : Nat) : Nat := fromOf n g + half n
theorem fromOf_le (n g : Nat) (hn : 4 ≤ n) : 2 ≤ fromOf n g ∧ toOf n g ≤ n ∧ fromOf n g ≤ n ∧ 1 ≤ half n := by
  unfold toOf fromOf half
  split <;> omega
/-- A superblock. -/
def sup (g : Nat) : Nat → Nat := fill (cat (four g) 4 (four (crc (four g) 4))) 8
/-- The generation that sector i is a superblock of, or 0. -/
def supAt (s : St) (i : Nat) : Nat := if 1 ≤ num (s.now i) ∧ num (s.now i) ≤ 2147483647 ∧ num (s.now i) % 2 = i ∧ eqB (s.now i) (sup (num (s.now i))) 64 = true then num (s.now i) else 0
/-- The greatest of both. -/
def genAt (s : St) : Nat := max (supAt s 0) (supAt s 1)
theorem supAt_le (s : St) (i : Nat) : supAt s i ≤ 2147483647 := by unfold supAt; split; rename_i h; exact h.2.1; omega
theorem genAt_le (s : St) : genAt s ≤ 2147483647 := by have h0 := supAt_le s 0; have h1 := supAt_le s 1; unfold genAt; omega
/-- The generation that counts. -/
def genOf (s : St) : Nat := if genAt s = 0 then 1 else genAt s
theorem genOf_le (s : St) : genOf s ≤ 2147483647 ∧ 1 ≤ genOf s := by have := genAt_le s; unfold genOf; split <;> omega
/-- One thing behind the other, up to the first error. -/
def andThen (r : St × Nat) (k : St → St × Nat) : St × Nat := if r.2 = 0 then k r.1 else r
theorem andThen_ok {r : St × Nat} {k : St → St × Nat} (h : r.2 = 0) : andThen r k = k r.1 := if_pos h
theorem andThen_no {r : St × Nat} {k : St → St × Nat} (h : r.2 ≠ 0) : andThen r k = r := if_neg h
/-- How many entries there are from at_ on. -/
def scanGo (s : St) (at_ : Nat) (e : Int) (gen : Nat) : Nat → Nat → Nat
  | 0, k => k
  | fuel + 1, k => if isEnt s (pos s at_ k) e gen then scanGo s at_ e gen fuel (k + 1) else k
theorem scanGo_found (s : St) (at_ : Nat) (e : Int) (gen : Nat) : ∀ fuel k, (∀ i, i < k → isEnt s (pos s at_ i) e gen = true) → s.n < k + fuel → Found s at_ e gen (scanGo s at_ e gen fuel k)
  | 0, k, h, hf => ⟨h, isEnt_ge (by show s.n ≤ pos s at_ k; have := pos_ge s at_ k; omega)⟩
  | fuel + 1, k, h, hf => by
    unfold scanGo
    cases hh : isEnt s (pos s at_ k) e gen with
    | false => exact ⟨h, hh⟩
    | true =>
      refine scanGo_found s at_ e gen fuel (k + 1) (fun i hi => ?_) (by omega)
      by_cases e : i = k
      · rw [e]; exact hh
      · exact h i (by omega)
def scanK (s : St) (at_ : Nat) (e : Int) (gen : Nat) : Nat := scanGo s at_ e gen (s.n + 1) 0
theorem scanK_found (s : St) (at_ : Nat) (e : Int) (gen : Nat) : Found s at_ e gen (scanK s at_ e gen) := scanGo_found s at_ e gen _ 0 (fun i hi => absurd hi (by omega)) (by omega)
/-- The sector behind the entries of generation g. -/
def zOf (p : St) (g : Nat) : Nat := pos p (fromOf p.n g) (scanK p (fromOf p.n g) (toOf p.n g : Int) g)
theorem zOf_le (p : St) (g : Nat) : fromOf p.n g ≤ zOf p g ∧ zOf p g ≤ toOf p.n g := by
  have hf := scanK_found p (fromOf p.n g) (toOf p.n g : Int) g
  have h1 := pos_ge p (fromOf p.n g) (scanK p (fromOf p.n g) (toOf p.n g : Int) g)
  refine ⟨by unfold zOf; omega, ?_⟩
  unfold zOf
  generalize scanK p (fromOf p.n g) (toOf p.n g : Int) g = K at *
  cases K with
  | zero => show fromOf p.n g ≤ toOf p.n g; unfold toOf; omega
  | succ k =>
    have h2 := (isEnt_lt (hf.1 k (by omega))).2
    show pos p (fromOf p.n g) k + cnt (lenAt p (pos p (fromOf p.n g) k)) ≤ _
    omega
/-- Open, where there is no superblock. -/
def prep (s : St) : St × Nat :=
  if genAt s = 0 then andThen (andThen (s.clean (fromOf s.n 1) (half s.n)) fun t => t.wr 1 (fill (sup 1) 64)) St.fl else (s, 0)
/-- Open. -/
def openSt (s : St) : St × Nat := andThen (prep s) fun t => t.clean (zOf t (genOf s)) (toOf s.n (genOf s) - zOf t (genOf s))
/-- A log. -/
structure Lg where
  gen : Nat
  at_ : Nat
  down : Bool
/-- The log that Open answers. -/
def openLg (s : St) : Lg := ⟨genOf s, zOf (prep s).1 (genOf s), false⟩
/-- Append: the disk, the log, the error. -/
def Lg.append (g : Lg) (s : St) (f : Nat → Nat) (len : Nat) : (St × Lg) × Nat :=
  if g.down then ((s, g), 4) else if 8192 < len then ((s, g), 1) else if fit s.n g.at_ (toOf s.n g.gen : Int) len then
    (if (s.lay g.at_ (ent g.gen f len) (cnt len)).2 = 0 then (((s.lay g.at_ (ent g.gen f len) (cnt len)).1, { g with at_ := g.at_ + cnt len }), 0)
     else (((s.lay g.at_ (ent g.gen f len) (cnt len)).1, { g with down := true }), 4))
  else ((s, g), 3)
/-- What Checkpoint does with the disk. -/
def checkSt (s : St) (g : Nat) (f : Nat → Nat) (len : Nat) : St × Nat :=
  andThen (andThen (andThen (s.clean (fromOf s.n g) (half s.n)) fun t => t.lay (fromOf s.n g) (ent g f len) (cnt len)) fun t => t.wr (g % 2) (fill (sup g) 64)) St.fl
/-- Checkpoint: the disk, the log, the error. -/
def Lg.check (g : Lg) (s : St) (f : Nat → Nat) (len : Nat) : (St × Lg) × Nat :=
  if g.down then ((s, g), 4) else if 8192 < len then ((s, g), 1) else if 2147483647 < g.gen + 1 ∨ half s.n < cnt len then ((s, g), 3) else
    (if (checkSt s (g.gen + 1) f len).2 = 0 then (((checkSt s (g.gen + 1) f len).1, ⟨g.gen + 1, fromOf s.n (g.gen + 1) + cnt len, false⟩), 0)
     else (((checkSt s (g.gen + 1) f len).1, { g with down := true }), 4))
theorem clean_cases (s : St) (lo m : Nat) : (s.clean lo m).2 = 0 ∨ (s.clean lo m).2 = 4 := by
  have hc : ∀ k, (cleans s lo k).1.2 = 0 ∨ (cleans s lo k).1.2 = 4 := by
    intro k
    induction k with
    | zero => exact .inl rfl
    | succ k ih =>
      unfold cleans
      split
      · split
        · exact ih
        · exact wr_cases _ _ _
      · exact ih
  unfold St.clean
  split
  · split
    · exact fl_cases _
    · exact hc _
  · exact hc _
theorem clean_n (s : St) (lo m : Nat) : (s.clean lo m).1.n = s.n := by
  unfold St.clean
  split
  · split
    · rw [fl_n, cleans_n]
    · rw [cleans_n]
  · rw [cleans_n]
theorem clean_lo (s : St) (lo m : Nat) : (s.clean lo m).1.lo.length ≤ s.lo.length + m := by
  have h := cleans_lo s lo m
  unfold St.clean
  split
  · split
    · have := fl_lo (cleans s lo m).1.1; omega
    · exact h
  · exact h
theorem lay_lo (s : St) (at_ gen : Nat) (f : Nat → Nat) (len : Nat) : (s.lay at_ (ent gen f len) (cnt len)).1.lo.length ≤ s.lo.length + (len + 63) / 64 + 1 := by
  rw [lay_puts]
  have h1 := put_lo s (at_ + 1) f len
  split
  · have h2 := put_lo (s.put (at_ + 1) f len).1 at_ (ent gen f len 0) 64; omega
  · omega
theorem made_fl {s : St} (h : Made s) : Made s.fl.1 := by
  unfold St.fl
  split
  · exact still_made (still_flush h)
  · exact h
theorem made_cleans' {s : St} (h : Made s) (lo : Nat) : ∀ k, Made (cleans s lo k).1.1
  | 0 => h
  | k + 1 => by
    unfold cleans
    split
    · split
      · exact made_cleans' h lo k
      · exact made_wr (made_cleans' h lo k) _ _
    · exact made_cleans' h lo k
theorem made_clean {s : St} (h : Made s) (lo m : Nat) : Made (s.clean lo m).1 := by
  unfold St.clean
  split
  · split
    · exact made_fl (made_cleans' h lo m)
    · exact made_cleans' h lo m
  · exact made_cleans' h lo m
theorem bts_clean {s : St} (h : Bts s) (lo m : Nat) : Bts (s.clean lo m).1 := by
  unfold St.clean
  split
  · split
    · exact (h.cleans lo m).fl
    · exact h.cleans lo m
  · exact h.cleans lo m
theorem sup_lt (g : Nat) : ∀ j, sup g j < 256 := bts_fill (cat_lt (n := 4) (m := 4) (fun i _ => four_lt _ i) (fun i _ => four_lt _ i))
theorem append_down {g : Lg} {s : St} {f : Nat → Nat} {len : Nat} (h : g.down = true) : g.append s f len = ((s, g), 4) := by unfold Lg.append; rw [if_pos h]
theorem append_arg {g : Lg} {s : St} {f : Nat → Nat} {len : Nat} (h : g.down = false) (hl : 8192 < len) : g.append s f len = ((s, g), 1) := by unfold Lg.append; rw [if_neg (by rw [h]; decide), if_pos hl]
theorem append_full {g : Lg} {s : St} {f : Nat → Nat} {len : Nat} (h : g.down = false) (hl : ¬ 8192 < len) (hf : fit s.n g.at_ (toOf s.n g.gen : Int) len = false) : g.append s f len = ((s, g), 3) := by unfold Lg.append; rw [if_neg (by rw [h]; decide), if_neg hl, if_neg (by rw [hf]; decide)]
theorem append_ok {g : Lg} {s : St} {f : Nat → Nat} {len : Nat} (h : g.down = false) (hl : ¬ 8192 < len) (hf : fit s.n g.at_ (toOf s.n g.gen : Int) len = true) (h0 : (s.lay g.at_ (ent g.gen f len) (cnt len)).2 = 0) :
    g.append s f len = (((s.lay g.at_ (ent g.gen f len) (cnt len)).1, { g with at_ := g.at_ + cnt len }), 0) := by unfold Lg.append; rw [if_neg (by rw [h]; decide), if_neg hl, if_pos hf, if_pos h0]
theorem append_no {g : Lg} {s : St} {f : Nat → Nat} {len : Nat} (h : g.down = false) (hl : ¬ 8192 < len) (hf : fit s.n g.at_ (toOf s.n g.gen : Int) len = true) (h0 : (s.lay g.at_ (ent g.gen f len) (cnt len)).2 = 4) :
    g.append s f len = (((s.lay g.at_ (ent g.gen f len) (cnt len)).1, { g with down := true }), 4) := by unfold Lg.append; rw [if_neg (by rw [h]; decide), if_neg hl, if_pos hf, if_neg (by omega)]
theorem lg_same (g : Lg) (h : g.down = false) : ({ g with down := false } : Lg) = g := by cases g; simp only at h; subst h; rfl
theorem check_down {g : Lg} {s : St} {f : Nat → Nat} {len : Nat} (h : g.down = true) : g.check s f len = ((s, g), 4) := by unfold Lg.check; rw [if_pos h]
theorem check_arg {g : Lg} {s : St} {f : Nat → Nat} {len : Nat} (h : g.down = false) (hl : 8192 < len) : g.check s f len = ((s, g), 1) := by unfold Lg.check; rw [if_neg (by rw [h]; decide), if_pos hl]
theorem check_full {g : Lg} {s : St} {f : Nat → Nat} {len : Nat} (h : g.down = false) (hl : ¬ 8192 < len) (hf : 2147483647 < g.gen + 1 ∨ half s.n < cnt len) : g.check s f len = ((s, g), 3) := by unfold Lg.check; rw [if_neg (by rw [h]; decide), if_neg hl, if_pos hf]
theorem check_ok {g : Lg} {s : St} {f : Nat → Nat} {len : Nat} (h : g.down = false) (hl : ¬ 8192 < len) (hf : ¬ (2147483647 < g.gen + 1 ∨ half s.n < cnt len)) (h0 : (checkSt s (g.gen + 1) f len).2 = 0) :
    g.check s f len = (((checkSt s (g.gen + 1) f len).1, ⟨g.gen + 1, fromOf s.n (g.gen + 1) + cnt len, false⟩), 0) := by unfold Lg.check; rw [if_neg (by rw [h]; decide), if_neg hl, if_neg hf, if_pos h0]
theorem check_no {g : Lg} {s : St} {f : Nat → Nat} {len : Nat} (h : g.down = false) (hl : ¬ 8192 < len) (hf : ¬ (2147483647 < g.gen + 1 ∨ half s.n < cnt len)) {S : St × Nat} (hS : checkSt s (g.gen + 1) f len = S) (h0 : S.2 = 4) :
    g.check s f len = ((S.1, { g with down := true }), 4) := by subst hS; unfold Lg.check; rw [if_neg (by rw [h]; decide), if_neg hl, if_neg hf, if_neg (by omega)]
theorem check_ok' {g : Lg} {s : St} {f : Nat → Nat} {len : Nat} (h : g.down = false) (hl : ¬ 8192 < len) (hf : ¬ (2147483647 < g.gen + 1 ∨ half s.n < cnt len)) {S : St × Nat} (hS : checkSt s (g.gen + 1) f len = S) (h0 : S.2 = 0) {Fm C : Nat} (hF : Fm = fromOf s.n (g.gen + 1)) (hC : C = cnt len) :
    g.check s f len = ((S.1, ⟨g.gen + 1, Fm + C, false⟩), 0) := by subst hS hF hC; exact check_ok h hl hf h0
end Go.Proofs.Ytbecchoidglaeaa
