/- All bytes of a disk are bytes, whatever is done with it. -/
import Derived.Test.YtbecchoidglaeaaRegD
import Derived.Test.YtbecchoidglaeaaGRegP
import Derived.Test.YtbecchoidglaeaaGFlush
namespace Go.Proofs.Ytbecchoidglaeaa
open Go.RowKit
set_option maxRecDepth 100000

theorem Bts.byt {s : St} (h : Bts s) : Byt s := fun i _ j _ => h.now i j
theorem Bts.wr {s : St} (h : Bts s) (i : Nat) {p : Nat → Nat} (hp : ∀ j, p j < 256) : Bts (s.wr i p).1 := by
  unfold St.wr
  split
  · exact h.spent.write i hp
  · exact h.spent
theorem Bts.fl {s : St} (h : Bts s) : Bts s.fl.1 := by
  unfold St.fl
  split
  · exact h.spent.flush
  · exact h.spent
theorem Bts.pages {s : St} (h : Bts s) (at_ : Nat) {G : Nat → Nat → Nat} (hG : ∀ i j, G i j < 256) : ∀ k, Bts (pages s at_ G k).1
  | 0 => h
  | k + 1 => by
    unfold Go.Proofs.Ytbecchoidglaeaa.pages
    split
    · exact (Bts.pages h at_ hG k).wr _ (hG k)
    · exact Bts.pages h at_ hG k
theorem Bts.put {s : St} (h : Bts s) (at_ : Nat) {f : Nat → Nat} {len : Nat} (hf : ∀ i, i < len → f i < 256) : Bts (s.put at_ f len).1 := by
  have hp := h.pages at_ (G := leaf f len) (fun i => bts_fill (fun j hj => hf _ (by omega))) ((len + 63) / 64)
  unfold St.put
  simp only
  split
  · exact hp.fl
  · exact hp
theorem Bts.layd {s : St} (h : Bts s) (at_ gen : Nat) {f : Nat → Nat} {len : Nat} (hf : ∀ i, i < len → f i < 256) : Bts (s.lay at_ (ent gen f len) (cnt len)).1 := by
  rw [lay_puts]
  split
  · exact (h.put _ hf).put _ (fun i hi => ent0_lt gen f len i hi)
  · exact h.put _ hf
theorem Bts.cleans {s : St} (h : Bts s) (lo : Nat) : ∀ k, Bts (cleans s lo k).1.1
  | 0 => h
  | k + 1 => by
    unfold Go.Proofs.Ytbecchoidglaeaa.cleans
    split
    · split
      · exact Bts.cleans h lo k
      · exact (Bts.cleans h lo k).wr _ (bts_fill (fun i hi => absurd hi (by omega)))
    · exact Bts.cleans h lo k
theorem found_bound {s : St} {at_ : Nat} {e : Int} {gen K : Nat} (h : Found s at_ e gen K) : K ≤ s.n := by
  cases K with
  | zero => exact Nat.zero_le _
  | succ k =>
    have h1 := (isEnt_lt (h.1 k (by omega))).1
    have h2 := pos_ge s at_ (k + 1)
    have h3 : pos s at_ (k + 1) ≤ s.n := h1
    omega
theorem still_new (n : Nat) : Still (St.made n) := ⟨rfl, rfl⟩
theorem live_new (n : Nat) : Live (St.made n) := ⟨rfl, rfl⟩
/-- An entry laid on a new disk: it is there, and it alone. -/
theorem lay_new (n at_ gen : Nat) (e : Int) (f : Nat → Nat) (len : Nat) (hg : gen ≤ 2147483647) (hl : len ≤ 8192) (hf : fit n at_ e len = true) {T : St} (hT : T = ((St.made n).lay at_ (ent gen f len) (cnt len)).1) :
    Found T at_ e gen 1 ∧ pos T at_ 1 = at_ + cnt len ∧ lenAt T at_ = len ∧ (∀ j, j < len → runs T (at_ + 1) j = f j) ∧ (∀ j, j < 64 → T.now at_ j = ent gen f len 0 j) ∧ T.n = n ∧ Still T ∧ Live T ∧ (∀ i, i < at_ ∨ at_ + cnt len ≤ i → ∀ j, T.now i j = 0) ∧ Pages T.now at_ gen f len 64 := by
  obtain ⟨h0, h1⟩ := (live_new n).lay at_ gen f len
  obtain ⟨h2, h3, h4⟩ := lay_done (still_new n) h0
  have hn := lay_n (St.made n) at_ gen f len
  rw [← hT] at h1 h2 h3 h4 hn
  obtain ⟨e1, e2, e3⟩ := Pages.ent (s := T) (e := e) h4 (by omega) (by rw [hn]; exact hf)
  have hz : ∀ i, i < at_ ∨ at_ + cnt len ≤ i → ∀ j, T.now i j = 0 := fun i hi j => by rw [h3 i hi]; rfl
  have hp : pos T at_ 1 = at_ + cnt len := by show at_ + cnt (lenAt T at_) = _; rw [e2]
  refine ⟨⟨fun i hi => ?_, ?_⟩, hp, e2, e3, fun j hj => by rw [h4.1 j hj, if_pos hj], hn, h2, h1, hz, h4⟩
  · obtain rfl : i = 0 := by omega
    exact e1
  · rw [hp]
    exact ent_zero (by omega) (fun j _ => hz _ (.inr (Nat.le_refl _)) j)
end Go.Proofs.Ytbecchoidglaeaa
/- Clean, on a disk with power of which nothing is loose. -/
namespace Go.Proofs.Ytbecchoidglaeaa
open Go.RowKit
set_option maxRecDepth 100000

/-- What Clean leaves on a disk with power. -/
theorem cleans_live {s : St} (hm : Made s) (hv : Live s) (lo : Nat) : ∀ k, (cleans s lo k).1.2 = 0 ∧ Live (cleans s lo k).1.1 ∧ Made (cleans s lo k).1.1 ∧
    (∀ i j, j < 64 → (cleans s lo k).1.1.now i j = if lo ≤ i ∧ i < lo + k then 0 else s.now i j) ∧ ((cleans s lo k).2 = false → (cleans s lo k).1.1 = s)
  | 0 => ⟨rfl, hv, hm, fun i j _ => by rw [if_neg (by omega)]; rfl, fun _ => rfl⟩
  | k + 1 => by
    obtain ⟨h1, h2, h3, h4, h5⟩ := cleans_live hm hv lo k
    cases hz : allZ ((cleans s lo k).1.1.now (lo + k)) 64 with
    | true =>
      rw [cleans_zero h1 hz]
      refine ⟨h1, h2, h3, fun i j hj => ?_, h5⟩
      rw [h4 i j hj]
      by_cases e : i = lo + k
      · have := (allZ_iff _ _).1 hz j hj
        rw [← e, h4 i j hj, if_neg (by omega)] at this
        rw [if_neg (by omega), if_pos (by omega), this]
      · by_cases e2 : lo ≤ i ∧ i < lo + k
        · rw [if_pos e2, if_pos (by omega)]
        · rw [if_neg e2, if_neg (by omega)]
    | false =>
      rw [cleans_wr h1 hz]
      obtain ⟨w1, w2⟩ := h2.wr (lo + k) (fill (fun _ => 0) 0)
      refine ⟨w1, w2, made_wr h3 _ _, fun i j hj => ?_, fun h => by cases h⟩
      show ((cleans s lo k).1.1.wr (lo + k) (fill (fun _ => 0) 0)).1.now i j = _
      rw [(wr_ok w1).2]
      show putPage (cleans s lo k).1.1.now (lo + k) 64 (fill (fun _ => 0) 0) i j = _
      unfold putPage
      by_cases e : i = lo + k
      · rw [if_pos ⟨e, hj⟩, if_pos (by omega)]
        unfold fill
        rw [if_neg (by omega)]
      · rw [if_neg (fun h => e h.1), h4 i j hj]
        by_cases e2 : lo ≤ i ∧ i < lo + k
        · rw [if_pos e2, if_pos (by omega)]
        · rw [if_neg e2, if_neg (by omega)]
theorem clean_live {s : St} (hs : Still s) (hv : Live s) (lo m : Nat) : (s.clean lo m).2 = 0 ∧ Still (s.clean lo m).1 ∧ ∀ i j, j < 64 → (s.clean lo m).1.now i j = if lo ≤ i ∧ i < lo + m then 0 else s.now i j := by
  obtain ⟨h1, h2, h3, h4, h5⟩ := cleans_live (still_made hs) hv lo m
  cases hz : (cleans s lo m).2 with
  | true =>
    rw [clean_done1 h1 hz]
    refine ⟨h2.fl.1, ?_, ?_⟩
    · rw [fl_ok h2.fl.1]; exact still_flush h3
    · rw [fl_ok h2.fl.1]; exact h4
  | false =>
    rw [clean_done0 h1 hz]
    refine ⟨h1, ?_, h4⟩
    rw [h5 hz]; exact hs
end Go.Proofs.Ytbecchoidglaeaa
/- The log in plain numbers: superblocks, regions, Open, Append, Checkpoint. -/
namespace Go.Proofs.Ytbecchoidglaeaa
open Go.RowKit
set_option maxRecDepth 100000

/-- How many sectors a region has. -/
def half (n : Nat) : Nat := (n - 2) / 2
/-- Where a generation's region begins, and ends. -/
def fromOf (n g : Nat) : Nat := if g % 2 = 0 then 2 else 2 + half n
def toOf (n g : Nat) : Nat := fromOf n g + half n
theorem fromOf_le (n g : Nat) (hn : 4 ≤ n) : 2 ≤ fromOf n g ∧ toOf n g ≤ n ∧ fromOf n g ≤ n ∧ 1 ≤ half n := by
  unfold toOf fromOf half
  split <;> omega
/-- A superblock. -/
def sup (g : Nat) : Nat → Nat := fill (cat (four g) 4 (four (crc (four g) 4))) 8
/-- The generation that sector i is a superblock of, or 0. -/
def supAt (s : St) (i : Nat) : Nat := if 1 ≤ num (s.now i) ∧ num (s.now i) ≤ 2147483647 ∧ num (s.now i) % 2 = i ∧ eqB (s.now i) (sup (num (s.now i))) 64 = true then num (s.now i) else 0
/-- The greatest of both. -/
def genAt (s : St) : Nat := max (supAt s 0) (supAt s 1)
theorem supAt_le (s : St) (i : Nat) : supAt s i ≤ 2147483647 := by unfold supAt; split; rename_i h; exact h.2.1; omega
theorem genAt_le (s : St) : genAt s ≤ 2147483647 := by have h0 := supAt_le s 0; have h1 := supAt_le s 1; unfold genAt; omega
/-- The generation that counts. -/
def genOf (s : St) : Nat := if genAt s = 0 then 1 else genAt s
theorem genOf_le (s : St) : genOf s ≤ 2147483647 ∧ 1 ≤ genOf s := by have := genAt_le s; unfold genOf; split <;> omega
/-- One thing behind the other, up to the first error. -/
def andThen (r : St × Nat) (k : St → St × Nat) : St × Nat := if r.2 = 0 then k r.1 else r
theorem andThen_ok {r : St × Nat} {k : St → St × Nat} (h : r.2 = 0) : andThen r k = k r.1 := if_pos h
theorem andThen_no {r : St × Nat} {k : St → St × Nat} (h : r.2 ≠ 0) : andThen r k = r := if_neg h
/-- How many entries there are from at_ on. -/
def scanGo (s : St) (at_ : Nat) (e : Int) (gen : Nat) : Nat → Nat → Nat
  | 0, k => k
  | fuel + 1, k => if isEnt s (pos s at_ k) e gen then scanGo s at_ e gen fuel (k + 1) else k
theorem scanGo_found (s : St) (at_ : Nat) (e : Int) (gen : Nat) : ∀ fuel k, (∀ i, i < k → isEnt s (pos s at_ i) e gen = true) → s.n < k + fuel → Found s at_ e gen (scanGo s at_ e gen fuel k)
  | 0, k, h, hf => ⟨h, isEnt_ge (by show s.n ≤ pos s at_ k; have := pos_ge s at_ k; omega)⟩
  | fuel + 1, k, h, hf => by
    unfold scanGo
    cases hh : isEnt s (pos s at_ k) e gen with
    | false => exact ⟨h, hh⟩
    | true =>
      refine scanGo_found s at_ e gen fuel (k + 1) (fun i hi => ?_) (by omega)
      by_cases e : i = k
      · rw [e]; exact hh
      · exact h i (by omega)
def scanK (s : St) (at_ : Nat) (e : Int) (gen : Nat) : Nat := scanGo s at_ e gen (s.n + 1) 0
theorem scanK_found (s : St) (at_ : Nat) (e : Int) (gen : Nat) : Found s at_ e gen (scanK s at_ e gen) := scanGo_found s at_ e gen _ 0 (fun i hi => absurd hi (by omega)) (by omega)
/-- The sector behind the entries of generation g. -/
def zOf (p : St) (g : Nat) : Nat := pos p (fromOf p.n g) (scanK p (fromOf p.n g) (toOf p.n g : Int) g)
theorem zOf_le (p : St) (g : Nat) : fromOf p.n g ≤ zOf p g ∧ zOf p g ≤ toOf p.n g := by
  have hf := scanK_found p (fromOf p.n g) (toOf p.n g : Int) g
  have h1 := pos_ge p (fromOf p.n g) (scanK p (fromOf p.n g) (toOf p.n g : Int) g)
  refine ⟨by unfold zOf; omega, ?_⟩
  unfold zOf
  generalize scanK p (fromOf p.n g) (toOf p.n g : Int) g = K at *
  cases K with
  | zero => show fromOf p.n g ≤ toOf p.n g; unfold toOf; omega
  | succ k =>
    have h2 := (isEnt_lt (hf.1 k (by omega))).2
    show pos p (fromOf p.n g) k + cnt (lenAt p (pos p (fromOf p.n g) k)) ≤ _
    omega
/-- Open, where there is no superblock. -/
def prep (s : St) : St × Nat :=
  if genAt s = 0 then andThen (andThen (s.clean (fromOf s.n 1) (half s.n)) fun t => t.wr 1 (fill (sup 1) 64)) St.fl else (s, 0)
/-- Open. -/
def openSt (s : St) : St × Nat := andThen (prep s) fun t => t.clean (zOf t (genOf s)) (toOf s.n (genOf s) - zOf t (genOf s))
/-- A log. -/
structure Lg where
  gen : Nat
  at_ : Nat
  down : Bool
/-- The log that Open answers. -/
def openLg (s : St) : Lg := ⟨genOf s, zOf (prep s).1 (genOf s), false⟩
/-- Append: the disk, the log, the error. -/
def Lg.append (g : Lg) (s : St) (f : Nat → Nat) (len : Nat) : (St × Lg) × Nat :=
  if g.down then ((s, g), 4) else if 8192 < len then ((s, g), 1) else if fit s.n g.at_ (toOf s.n g.gen : Int) len then
    (if (s.lay g.at_ (ent g.gen f len) (cnt len)).2 = 0 then (((s.lay g.at_ (ent g.gen f len) (cnt len)).1, { g with at_ := g.at_ + cnt len }), 0)
     else (((s.lay g.at_ (ent g.gen f len) (cnt len)).1, { g with down := true }), 4))
  else ((s, g), 3)
/-- What Checkpoint does with the disk. -/
def checkSt (s : St) (g : Nat) (f : Nat → Nat) (len : Nat) : St × Nat :=
  andThen (andThen (andThen (s.clean (fromOf s.n g) (half s.n)) fun t => t.lay (fromOf s.n g) (ent g f len) (cnt len)) fun t => t.wr (g % 2) (fill (sup g) 64)) St.fl
/-- Checkpoint: the disk, the log, the error. -/
def Lg.check (g : Lg) (s : St) (f : Nat → Nat) (len : Nat) : (St × Lg) × Nat :=
  if g.down then ((s, g), 4) else if 8192 < len then ((s, g), 1) else if 2147483647 < g.gen + 1 ∨ half s.n < cnt len then ((s, g), 3) else
    (if (checkSt s (g.gen + 1) f len).2 = 0 then (((checkSt s (g.gen + 1) f len).1, ⟨g.gen + 1, fromOf s.n (g.gen + 1) + cnt len, false⟩), 0)
     else (((checkSt s (g.gen + 1) f len).1, { g with down := true }), 4))
theorem clean_cases (s : St) (lo m : Nat) : (s.clean lo m).2 = 0 ∨ (s.clean lo m).2 = 4 := by
  have hc : ∀ k, (cleans s lo k).1.2 = 0 ∨ (cleans s lo k).1.2 = 4 := by
    intro k
    induction k with
    | zero => exact .inl rfl
    | succ k ih =>
      unfold cleans
      split
      · split
        · exact ih
        · exact wr_cases _ _ _
      · exact ih
  unfold St.clean
  split
  · split
    · exact fl_cases _
    · exact hc _
  · exact hc _
theorem clean_n (s : St) (lo m : Nat) : (s.clean lo m).1.n = s.n := by
  unfold St.clean
  split
  · split
    · rw [fl_n, cleans_n]
    · rw [cleans_n]
  · rw [cleans_n]
theorem clean_lo (s : St) (lo m : Nat) : (s.clean lo m).1.lo.length ≤ s.lo.length + m := by
  have h := cleans_lo s lo m
  unfold St.clean
  split
  · split
    · have := fl_lo (cleans s lo m).1.1; omega
    · exact h
  · exact h
theorem lay_lo (s : St) (at_ gen : Nat) (f : Nat → Nat) (len : Nat) : (s.lay at_ (ent gen f len) (cnt len)).1.lo.length ≤ s.lo.length + (len + 63) / 64 + 1 := by
  rw [lay_puts]
  have h1 := put_lo s (at_ + 1) f len
  split
  · have h2 := put_lo (s.put (at_ + 1) f len).1 at_ (ent gen f len 0) 64; omega
  · omega
theorem made_fl {s : St} (h : Made s) : Made s.fl.1 := by
  unfold St.fl
  split
  · exact still_made (still_flush h)
  · exact h
theorem made_cleans' {s : St} (h : Made s) (lo : Nat) : ∀ k, Made (cleans s lo k).1.1
  | 0 => h
  | k + 1 => by
    unfold cleans
    split
    · split
      · exact made_cleans' h lo k
      · exact made_wr (made_cleans' h lo k) _ _
    · exact made_cleans' h lo k
theorem made_clean {s : St} (h : Made s) (lo m : Nat) : Made (s.clean lo m).1 := by
  unfold St.clean
  split
  · split
    · exact made_fl (made_cleans' h lo m)
    · exact made_cleans' h lo m
  · exact made_cleans' h lo m
theorem bts_clean {s : St} (h : Bts s) (lo m : Nat) : Bts (s.clean lo m).1 := by
  unfold St.clean
  split
  · split
    · exact (h.cleans lo m).fl
    · exact h.cleans lo m
  · exact h.cleans lo m
theorem sup_lt (g : Nat) : ∀ j, sup g j < 256 := bts_fill (cat_lt (n := 4) (m := 4) (fun i _ => four_lt _ i) (fun i _ => four_lt _ i))
theorem append_down {g : Lg} {s : St} {f : Nat → Nat} {len : Nat} (h : g.down = true) : g.append s f len = ((s, g), 4) := by unfold Lg.append; rw [if_pos h]
theorem append_arg {g : Lg} {s : St} {f : Nat → Nat} {len : Nat} (h : g.down = false) (hl : 8192 < len) : g.append s f len = ((s, g), 1) := by unfold Lg.append; rw [if_neg (by rw [h]; decide), if_pos hl]
theorem append_full {g : Lg} {s : St} {f : Nat → Nat} {len : Nat} (h : g.down = false) (hl : ¬ 8192 < len) (hf : fit s.n g.at_ (toOf s.n g.gen : Int) len = false) : g.append s f len = ((s, g), 3) := by unfold Lg.append; rw [if_neg (by rw [h]; decide), if_neg hl, if_neg (by rw [hf]; decide)]
theorem append_ok {g : Lg} {s : St} {f : Nat → Nat} {len : Nat} (h : g.down = false) (hl : ¬ 8192 < len) (hf : fit s.n g.at_ (toOf s.n g.gen : Int) len = true) (h0 : (s.lay g.at_ (ent g.gen f len) (cnt len)).2 = 0) :
    g.append s f len = (((s.lay g.at_ (ent g.gen f len) (cnt len)).1, { g with at_ := g.at_ + cnt len }), 0) := by unfold Lg.append; rw [if_neg (by rw [h]; decide), if_neg hl, if_pos hf, if_pos h0]
theorem append_no {g : Lg} {s : St} {f : Nat → Nat} {len : Nat} (h : g.down = false) (hl : ¬ 8192 < len) (hf : fit s.n g.at_ (toOf s.n g.gen : Int) len = true) (h0 : (s.lay g.at_ (ent g.gen f len) (cnt len)).2 = 4) :
    g.append s f len = (((s.lay g.at_ (ent g.gen f len) (cnt len)).1, { g with down := true }), 4) := by unfold Lg.append; rw [if_neg (by rw [h]; decide), if_neg hl, if_pos hf, if_neg (by omega)]
theorem lg_same (g : Lg) (h : g.down = false) : ({ g with down := false } : Lg) = g := by cases g; simp only at h; subst h; rfl
theorem check_down {g : Lg} {s : St} {f : Nat → Nat} {len : Nat} (h : g.down = true) : g.check s f len = ((s, g), 4) := by unfold Lg.check; rw [if_pos h]
theorem check_arg {g : Lg} {s : St} {f : Nat → Nat} {len : Nat} (h : g.down = false) (hl : 8192 < len) : g.check s f len = ((s, g), 1) := by unfold Lg.check; rw [if_neg (by rw [h]; decide), if_pos hl]
theorem check_full {g : Lg} {s : St} {f : Nat → Nat} {len : Nat} (h : g.down = false) (hl : ¬ 8192 < len) (hf : 2147483647 < g.gen + 1 ∨ half s.n < cnt len) : g.check s f len = ((s, g), 3) := by unfold Lg.check; rw [if_neg (by rw [h]; decide), if_neg hl, if_pos hf]
theorem check_ok {g : Lg} {s : St} {f : Nat → Nat} {len : Nat} (h : g.down = false) (hl : ¬ 8192 < len) (hf : ¬ (2147483647 < g.gen + 1 ∨ half s.n < cnt len)) (h0 : (checkSt s (g.gen + 1) f len).2 = 0) :
    g.check s f len = (((checkSt s (g.gen + 1) f len).1, ⟨g.gen + 1, fromOf s.n (g.gen + 1) + cnt len, false⟩), 0) := by unfold Lg.check; rw [if_neg (by rw [h]; decide), if_neg hl, if_neg hf, if_pos h0]
theorem check_no {g : Lg} {s : St} {f : Nat → Nat} {len : Nat} (h : g.down = false) (hl : ¬ 8192 < len) (hf : ¬ (2147483647 < g.gen + 1 ∨ half s.n < cnt len)) {S : St × Nat} (hS : checkSt s (g.gen + 1) f len = S) (h0 : S.2 = 4) :
    g.check s f len = ((S.1, { g with down := true }), 4) := by subst hS; unfold Lg.check; rw [if_neg (by rw [h]; decide), if_neg hl, if_neg hf, if_neg (by omega)]
theorem check_ok' {g : Lg} {s : St} {f : Nat → Nat} {len : Nat} (h : g.down = false) (hl : ¬ 8192 < len) (hf : ¬ (2147483647 < g.gen + 1 ∨ half s.n < cnt len)) {S : St × Nat} (hS : checkSt s (g.gen + 1) f len = S) (h0 : S.2 = 0) {Fm C : Nat} (hF : Fm = fromOf s.n (g.gen + 1)) (hC : C = cnt len) :
    g.check s f len = ((S.1, ⟨g.gen + 1, Fm + C, false⟩), 0) := by subst hS hF hC; exact check_ok h hl hf h0
end Go.Proofs.Ytbecchoidglaeaa
/- What a crash leaves of a head, and of a superblock, of a small generation. -/
namespace Go.Proofs.Ytbecchoidglaeaa
open Go.RowKit
set_option maxRecDepth 100000

theorem small_sums : (List.range 16).all (fun g => crc (head12 g 0 0) 12 != 0) = true := by kernel_rfl
theorem small_sum (g : Nat) (hg : g < 16) : crc (head12 g 0 0) 12 ≠ 0 := by
  have h := List.all_eq_true.1 small_sums g (List.mem_range.2 hg)
  simpa using h
theorem four_small (g : Nat) (hg : g < 256) : four g 0 = 0 ∧ four g 1 = 0 ∧ four g 2 = 0 ∧ four g 3 = g := by
  unfold four
  refine ⟨?_, ?_, ?_, ?_⟩ <;> simp <;> omega
/-- A torn head of a small generation, of few bytes, over a sector that was 0: none, or the whole. -/
theorem torn_small {s : St} {at_ g len m : Nat} {e : Int} {f : Nat → Nat} (hg1 : 1 ≤ g) (hg : g < 16) (hl : len < 256) (h : Pages s.now at_ g f len m) (hen : isEnt s at_ e g = true) : Pages s.now at_ g f len 64 := by
  refine ⟨fun j hj => ?_, h.2⟩
  rw [if_pos hj]
  by_cases hm : 16 ≤ m
  · rw [h.1 j hj]
    by_cases h2 : j < m
    · rw [if_pos h2]
    · rw [if_neg h2]
      show 0 = fill (head16 g len (crc f len)) 16 j
      unfold fill
      rw [if_neg (by omega)]
  · have hp := (isEnt_parts hen).2
    have hz : ∀ q, q < 16 → m ≤ q → head16 g (lenAt s at_) (crc (runs s (at_ + 1)) (lenAt s at_)) q = 0 := fun q hq hq2 => by
      rw [← ent0_at _ _ _ _ hq, ← hp q (by omega), h.1 q (by omega), if_neg (by omega)]
    by_cases hm8 : 8 ≤ m
    · have hlen : lenAt s at_ = len := by
        unfold lenAt
        rw [← num_four len (by omega)]
        refine num_congr fun i hi => ?_
        rw [h.1 (4 + i) (by omega), if_pos (by omega), ent0_at _ _ _ _ (by omega), head_len _ _ _ _ hi]
      have hr : ∀ q, q < len → runs s (at_ + 1) q = f q := fun q hq => by
        unfold runs
        rw [h.2 (q / 64) (by omega) (q % 64) (Nat.mod_lt _ (by omega))]
        show fill (fun x => f (q / 64 * 64 + x)) (len - q / 64 * 64) (q % 64) = _
        unfold fill
        rw [if_pos (by omega)]
        show f (q / 64 * 64 + q % 64) = f q
        rw [show q / 64 * 64 + q % 64 = q from by omega]
      rw [hp j hj, hlen, ent0_congr g _ f len hr]
    · exfalso
      obtain ⟨f0, f1, f2, f3⟩ := four_small g (by omega)
      by_cases hm4 : m < 4
      · have := hz 3 (by omega) (by omega)
        rw [head_gen _ _ _ _ (by omega), f3] at this
        omega
      · obtain ⟨l0, l1, l2, _⟩ := four_small len hl
        have hb : ∀ i, i < 4 → s.now at_ (4 + i) = 0 := fun i hi => by
          rw [h.1 (4 + i) (by omega)]
          split
          · rw [ent0_at _ _ _ _ (by omega), head_len _ _ _ _ hi]
            match i, hi with
            | 0, _ => exact l0
            | 1, _ => exact l1
            | 2, _ => exact l2
            | 3, _ => omega
          · rfl
        have hn : lenAt s at_ = 0 := by
          unfold lenAt
          rw [num_congr (g := fun _ => 0) hb]
          rfl
        rw [hn, crc_none] at hz
        refine small_sum g hg (four_zero (crc_lt _ _ (head12_lt _ _ _)) fun i hi => ?_)
        rw [← head_sum g 0 0 i hi]
        exact hz _ (by omega) (by omega)
theorem sup_at (g j : Nat) (hj : j < 4) : sup g j = four g j := by
  unfold sup fill cat
  rw [if_pos (by omega), if_pos hj]
theorem num_sup (g : Nat) (hg : g < 4294967296) : num (sup g) = g := by
  rw [num_congr (g := four g) (fun i hi => sup_at g i hi)]
  exact num_four g hg
/-- A superblock that is there. -/
theorem supAt_yes {s : St} {i g : Nat} (h1 : 1 ≤ g) (h2 : g ≤ 2147483647) (h3 : g % 2 = i) (h : ∀ j, j < 64 → s.now i j = sup g j) : supAt s i = g := by
  have hn : num (s.now i) = g := by
    rw [num_congr (g := sup g) (fun j hj => h j (by omega))]
    exact num_sup g (by omega)
  unfold supAt
  rw [hn, if_pos ⟨h1, h2, h3, (eqB_iff _ _ _).2 h⟩]
theorem supAt_congr {s t : St} {i : Nat} (h : ∀ j, j < 64 → s.now i j = t.now i j) : supAt s i = supAt t i := by
  have hn : num (s.now i) = num (t.now i) := num_congr (fun j hj => h j (by omega))
  have he : eqB (s.now i) (sup (num (t.now i))) 64 = eqB (t.now i) (sup (num (t.now i))) 64 := by
    rw [Bool.eq_iff_iff, eqB_iff, eqB_iff]
    exact ⟨fun h2 j hj => by rw [← h j hj]; exact h2 j hj, fun h2 j hj => by rw [h j hj]; exact h2 j hj⟩
  unfold supAt
  rw [hn, he]
/-- A torn superblock of a small generation over another's, or over 0: as it was, the new one, or none. -/
theorem supAt_torn {s t : St} {i g m : Nat} (hg1 : 1 ≤ g) (hg : g < 256) (hgi : g % 2 = i) (hold : ∀ j, j < 3 → t.now i j = 0) (h : ∀ j, j < 64 → s.now i j = if j < m then sup g j else t.now i j) :
    supAt s i = supAt t i ∨ supAt s i = g ∨ supAt s i = 0 := by
  obtain ⟨f0, f1, f2, f3⟩ := four_small g hg
  by_cases hm : m < 4
  · left
    refine supAt_congr fun j hj => ?_
    rw [h j hj]
    split
    · rename_i hjm
      rw [sup_at g j (by omega), hold j (by omega)]
      match j, (show j < 3 by omega) with
      | 0, _ => exact f0
      | 1, _ => exact f1
      | 2, _ => exact f2
    · rfl
  · right
    have hn : num (s.now i) = g := by
      rw [num_congr (g := sup g) (fun j hj => by rw [h j (by omega), if_pos (by omega)])]
      exact num_sup g (by omega)
    unfold supAt
    rw [hn]
    split
    · exact .inl rfl
    · exact .inr rfl
end Go.Proofs.Ytbecchoidglaeaa
