/- A disk with power of which nothing is loose: Clean, Lay, mark, Checkpoint, Open, in plain numbers. -/
import Derived.Test.YtbecchoidglaeaaGLogP
import Derived.Test.YtbecchoidglaeaaWalO
namespace Go.Proofs.Ytbecchoidglaeaa
open Go.RowKit
set_option maxRecDepth 100000

/-- Power, nothing loose, all bytes. -/
structure Calm (s : St) : Prop where
  still : Still s
  live : Live s
  bts : Bts s
theorem calm_made (n : Nat) : Calm (St.made n) := ⟨still_new n, live_new n, bts_made n⟩
theorem calm_clean {s : St} (h : Calm s) (lo m : Nat) : (s.clean lo m).2 = 0 ∧ Calm (s.clean lo m).1 ∧ ∀ i j, j < 64 → (s.clean lo m).1.now i j = if lo ≤ i ∧ i < lo + m then 0 else s.now i j := by
  obtain ⟨h1, h2, h3⟩ := clean_live h.still h.live lo m
  refine ⟨h1, ⟨h2, ?_, bts_clean h.bts lo m⟩, h3⟩
  obtain ⟨k1, k2, k3, k4, k5⟩ := cleans_live (still_made h.still) h.live lo m
  cases hz : (cleans s lo m).2 with
  | true => rw [clean_done1 k1 hz]; exact k2.fl.2
  | false => rw [clean_done0 k1 hz]; exact k2
theorem calm_lay {s : St} (h : Calm s) (at_ gen : Nat) (f : Nat → Nat) (len : Nat) (hf : ∀ i, i < len → f i < 256) :
    (s.lay at_ (ent gen f len) (cnt len)).2 = 0 ∧ Calm (s.lay at_ (ent gen f len) (cnt len)).1 ∧ (∀ i, i < at_ ∨ at_ + cnt len ≤ i → (s.lay at_ (ent gen f len) (cnt len)).1.now i = s.now i) ∧ Pages (s.lay at_ (ent gen f len) (cnt len)).1.now at_ gen f len 64 := by
  obtain ⟨h1, h2⟩ := h.live.lay at_ gen f len
  obtain ⟨k1, k2, k3⟩ := lay_done h.still h1
  exact ⟨h1, ⟨k1, h2, h.bts.layd at_ gen hf⟩, k2, k3⟩
/-- A Write and a Flush. -/
theorem calm_wr {s : St} (h : Calm s) (k : Nat) (p : Nat → Nat) (hp : ∀ j, p j < 256) :
    (andThen (s.wr k p) St.fl).2 = 0 ∧ Calm (andThen (s.wr k p) St.fl).1 ∧ ∀ i j, j < 64 → (andThen (s.wr k p) St.fl).1.now i j = if i = k then p j else s.now i j := by
  obtain ⟨h1, h2⟩ := h.live.wr k p
  rw [andThen_ok h1]
  obtain ⟨k1, k2⟩ := h2.fl
  refine ⟨k1, ⟨?_, k2, (h.bts.wr k hp).fl⟩, fun i j hj => ?_⟩
  · rw [fl_ok k1]
    exact still_flush (made_wr (still_made h.still) k p)
  · rw [fl_ok k1]
    show (s.wr k p).1.now i j = _
    rw [(wr_ok h1).2]
    show putPage s.now k 64 p i j = _
    unfold putPage
    by_cases e : i = k
    · rw [if_pos ⟨e, hj⟩, if_pos e]
    · rw [if_neg (fun h => e h.1), if_neg e]
theorem calm_mark {s : St} (h : Calm s) (g : Nat) : (s.mark g).2 = 0 ∧ Calm (s.mark g).1 ∧ ∀ i j, j < 64 → (s.mark g).1.now i j = if i = g % 2 then sup g j else s.now i j := by
  obtain ⟨h1, h2, h3⟩ := calm_wr h (g % 2) (fill (sup g) 64) (bts_fill (f := sup g) (len := 64) (fun i _ => sup_lt g i))
  refine ⟨h1, h2, fun i j hj => ?_⟩
  have := h3 i j hj
  unfold St.mark
  rw [this]
  unfold fill
  rw [if_pos hj]
/-- What Checkpoint leaves. -/
theorem calm_check {s : St} (h : Calm s) (g : Nat) (f : Nat → Nat) (len : Nat) (hn : 4 ≤ s.n) (hf : ∀ i, i < len → f i < 256) (hroom : cnt len ≤ half s.n) :
    (checkSt s g f len).2 = 0 ∧ Calm (checkSt s g f len).1 ∧ (checkSt s g f len).1.n = s.n ∧ (∀ j, j < 64 → (checkSt s g f len).1.now (g % 2) j = sup g j) ∧ Pages (checkSt s g f len).1.now (fromOf s.n g) g f len 64 ∧
      (∀ i, fromOf s.n g + cnt len ≤ i → i < toOf s.n g → ∀ j, j < 64 → (checkSt s g f len).1.now i j = 0) ∧ ∀ i, i ≠ g % 2 → i < fromOf s.n g ∨ toOf s.n g ≤ i → ∀ j, j < 64 → (checkSt s g f len).1.now i j = s.now i j := by
  have hfl := fromOf_le s.n g hn
  have hto : toOf s.n g = fromOf s.n g + half s.n := rfl
  have hg2 : g % 2 < 2 := Nat.mod_lt _ (by omega)
  have hcl : cnt len = 1 + (len + 63) / 64 := rfl
  rw [checkSt_eq]
  obtain ⟨c1, c2, c3⟩ := calm_clean h (fromOf s.n g) (half s.n)
  have cn := clean_n s (fromOf s.n g) (half s.n)
  rw [andThen_ok c1]
  generalize (s.clean (fromOf s.n g) (half s.n)).1 = p at *
  obtain ⟨l1, l2, l3, l4⟩ := calm_lay c2 (fromOf s.n g) g f len hf
  have ln := lay_n p (fromOf s.n g) g f len
  rw [andThen_ok l1]
  generalize (p.lay (fromOf s.n g) (ent g f len) (cnt len)).1 = q at *
  obtain ⟨m1, m2, m3⟩ := calm_mark l2 g
  have mn := mark_n q g
  refine ⟨m1, m2, by omega, fun j hj => by rw [m3 _ j hj, if_pos rfl], ⟨fun j hj => ?_, fun i hi j hj => ?_⟩, fun i h1 h2 j hj => ?_, fun i h1 h2 j hj => ?_⟩
  · rw [m3 _ j hj, if_neg (by omega)]; exact l4.1 j hj
  · rw [m3 _ j hj, if_neg (by omega)]; exact l4.2 i hi j hj
  · rw [m3 _ j hj, if_neg (by omega), l3 i (by omega), c3 i j hj, if_pos (by omega)]
  · rw [m3 _ j hj, if_neg h1, l3 i (by omega), c3 i j hj, if_neg (by omega)]
/-- Open, where a superblock counts: what is behind the entries is cleaned. -/
theorem calm_open {s : St} (h : Calm s) {g : Nat} (hg : genAt s = g) (hg1 : 1 ≤ g) :
    genOf s = g ∧ prep s = (s, 0) ∧ (openSt s).2 = 0 ∧ Calm (openSt s).1 ∧ (openSt s).1.n = s.n ∧ openLg s = ⟨g, zOf s g, false⟩ ∧ ∀ i j, j < 64 → (openSt s).1.now i j = if zOf s g ≤ i ∧ i < toOf s.n g then 0 else s.now i j := by
  have e1 : genOf s = g := by unfold genOf; rw [hg, if_neg (by omega)]
  have e2 : prep s = (s, 0) := by unfold prep; rw [if_neg (by omega)]
  have e3 : openSt s = s.clean (zOf s g) (toOf s.n g - zOf s g) := by unfold openSt; rw [e1, e2]; rfl
  obtain ⟨c1, c2, c3⟩ := calm_clean h (zOf s g) (toOf s.n g - zOf s g)
  have hz := zOf_le s g
  refine ⟨e1, e2, by rw [e3]; exact c1, by rw [e3]; exact c2, by rw [e3, clean_n], by unfold openLg; rw [e1, e2], fun i j hj => ?_⟩
  rw [e3, c3 i j hj]
  by_cases e : zOf s g ≤ i ∧ i < toOf s.n g
  · rw [if_pos (by omega), if_pos e]
  · rw [if_neg (by omega), if_neg e]
/-- A region that is 0 has no entries. -/
theorem z_zero {s : St} {g : Nat} (hg : g < 4294967296) (hz : ∀ j, j < 64 → s.now (fromOf s.n g) j = 0) : scanK s (fromOf s.n g) (toOf s.n g : Int) g = 0 ∧ zOf s g = fromOf s.n g := by
  have hf : Found s (fromOf s.n g) (toOf s.n g : Int) g 0 := ⟨fun i hi => absurd hi (by omega), ent_zero hg hz⟩
  have e := found_one (scanK_found s (fromOf s.n g) (toOf s.n g : Int) g) hf
  exact ⟨e, by unfold zOf; rw [e]; rfl⟩
/-- A region with one entry. -/
theorem z_one {s : St} {g : Nat} {f : Nat → Nat} {len : Nat} (hg : g < 4294967296) (hn : 4 ≤ s.n) (hl : len ≤ 8192) (hroom : cnt len ≤ half s.n) (hp : Pages s.now (fromOf s.n g) g f len 64) (hz : ∀ i, fromOf s.n g + cnt len ≤ i → i < toOf s.n g → ∀ j, j < 64 → s.now i j = 0) :
    scanK s (fromOf s.n g) (toOf s.n g : Int) g = 1 ∧ zOf s g = fromOf s.n g + cnt len ∧ lenAt s (fromOf s.n g) = len ∧ ∀ j, j < len → runs s (fromOf s.n g + 1) j = f j := by
  have hfl := fromOf_le s.n g hn
  have hto : toOf s.n g = fromOf s.n g + half s.n := rfl
  have h1 : 1 ≤ cnt len := by unfold cnt; omega
  have hfit : ∀ e : Nat, e = toOf s.n g → fit s.n (fromOf s.n g) (e : Int) len = true := fun e he => by rw [fit_iff]; omega
  obtain ⟨e1, e2, e3⟩ := Pages.ent (s := s) (e := (toOf s.n g : Int)) hp (by omega) (hfit _ rfl)
  have hpos : pos s (fromOf s.n g) 1 = fromOf s.n g + cnt len := by show fromOf s.n g + cnt (lenAt s (fromOf s.n g)) = _; rw [e2]
  have hf : Found s (fromOf s.n g) (toOf s.n g : Int) g 1 := by
    refine ⟨fun i hi => ?_, ?_⟩
    · obtain rfl : i = 0 := by omega
      exact e1
    · rw [hpos]
      by_cases hlt : fromOf s.n g + cnt len < toOf s.n g
      · exact ent_zero hg (fun j hj => hz _ (Nat.le_refl _) hlt j hj)
      · cases hh : isEnt s (fromOf s.n g + cnt len) (toOf s.n g : Int) g with
        | false => rfl
        | true =>
          have h2 := (isEnt_lt hh).2
          have h3 : 1 ≤ cnt (lenAt s (fromOf s.n g + cnt len)) := by unfold cnt; omega
          omega
  have e := found_one (scanK_found s (fromOf s.n g) (toOf s.n g : Int) g) hf
  exact ⟨e, by unfold zOf; rw [e, hpos], e2, e3⟩
theorem num_made (n i : Nat) : num ((St.made n).now i) = 0 := by show num (fun _ => 0) = 0; simp [num]
/-- Open of a new disk. -/
theorem calm_new (n : Nat) (hn : 4 ≤ n) : (openSt (St.made n)).2 = 0 ∧ Calm (openSt (St.made n)).1 ∧ (openSt (St.made n)).1.n = n ∧ openLg (St.made n) = ⟨1, fromOf n 1, false⟩ ∧
    ∀ i j, j < 64 → (openSt (St.made n)).1.now i j = if i = 1 then sup 1 j else 0 := by
  have hfl := fromOf_le n 1 hn
  have hfo : 2 ≤ fromOf n 1 := hfl.1
  have g0 : genAt (St.made n) = 0 := by
    unfold genAt
    rw [supAt_no' (s := St.made n) (i := 0) (by rintro ⟨h, _⟩; rw [num_made] at h; omega), supAt_no' (s := St.made n) (i := 1) (by rintro ⟨h, _⟩; rw [num_made] at h; omega)]
    rfl
  have g1 : genOf (St.made n) = 1 := by unfold genOf; rw [if_pos g0]
  obtain ⟨c1, c2, c3⟩ := calm_clean (calm_made n) (fromOf n 1) (half n)
  have cn := clean_n (St.made n) (fromOf n 1) (half n)
  have hpb : prep (St.made n) = ((St.made n).clean (fromOf n 1) (half n)).1.mark 1 := by
    rw [prep_begin g0]
    unfold beginSt
    exact andThen_ok c1
  generalize hP : ((St.made n).clean (fromOf n 1) (half n)).1 = P at *
  have hz : ∀ i j, j < 64 → P.now i j = 0 := fun i j hj => by
    rw [c3 i j hj]
    split
    · rfl
    · rfl
  obtain ⟨m1, m2, m3⟩ := calm_mark c2 1
  have mn := mark_n P 1
  have cn' : P.n = n := cn
  generalize P.mark 1 = M at *
  obtain ⟨M, e⟩ := M
  simp only at m1 m2 m3 mn
  subst m1
  have zz := z_zero (s := M) (g := 1) (by omega) (fun j hj => by rw [m3 _ j hj, if_neg (by rw [mn, cn']; omega)]; exact hz _ j hj)
  rw [mn, cn'] at zz
  have e3 : openSt (St.made n) = M.clean (zOf M 1) (toOf n 1 - zOf M 1) := by unfold openSt; rw [g1, hpb]; rfl
  obtain ⟨d1, d2, d3⟩ := calm_clean m2 (zOf M 1) (toOf n 1 - zOf M 1)
  refine ⟨by rw [e3]; exact d1, by rw [e3]; exact d2, by rw [e3, clean_n]; omega, by unfold openLg; rw [g1, hpb]; show (⟨1, zOf M 1, false⟩ : Lg) = _; rw [zz.2], fun i j hj => ?_⟩
  rw [e3, d3 i j hj, m3 i j hj]
  by_cases hi : i = 1
  · rw [if_neg (by rw [zz.2]; omega), if_pos hi, if_pos hi]
  · rw [if_neg hi]
    split
    · rfl
    · exact hz i j hj
end Go.Proofs.Ytbecchoidglaeaa
/- Open, Append and Checkpoint of the program on a disk with power of which nothing is loose. -/
namespace Go.Proofs.Ytbecchoidglaeaa
open Go.RowKit
set_option maxRecDepth 100000

/-- v is the list of the entries' bytes that Open answers. -/
def ORows (w : World) (v : Value) (s : St) : Prop :=
  RowsRd w v (scanK (prep s).1 (fromOf s.n (genOf s)) (toOf s.n (genOf s) : Int) (genOf s)) (fun i => lenAt (prep s).1 (pos (prep s).1 (fromOf s.n (genOf s)) i)) (fun i => runs (prep s).1 (pos (prep s).1 (fromOf s.n (genOf s)) i + 1))
/-- The same, all its blocks new since B0. -/
def ORowsIn (w : World) (B0 : Nat) (v : Value) (s : St) : Prop :=
  RowsIn w B0 v (scanK (prep s).1 (fromOf s.n (genOf s)) (toOf s.n (genOf s) : Int) (genOf s)) (fun i => lenAt (prep s).1 (pos (prep s).1 (fromOf s.n (genOf s)) i)) (fun i => runs (prep s).1 (pos (prep s).1 (fromOf s.n (genOf s)) i + 1))
theorem prep_n (s : St) : (prep s).1.n = s.n := by
  by_cases h : genAt s = 0
  · rw [prep_begin h, begin_n]
  · unfold prep; rw [if_neg h]
theorem ORowsIn.rd {w : World} {B0 : Nat} {v : Value} {s : St} (h : ORowsIn w B0 v s) (hs : s.n ≤ 1024) : ORows w v s := by
  have h1 := found_bound (scanK_found (prep s).1 (fromOf s.n (genOf s)) (toOf s.n (genOf s) : Int) (genOf s))
  rw [prep_n] at h1
  exact RowsIn.rd h (by omega)
theorem lo_calm {s : St} (h : Calm s) : s.lo.length = 0 := by rw [h.still.1]; rfl
theorem open_ok {w : World} {D : Nat} {s : St} {F : Nat → Prop} (h : Disk w D s F) (hby : Bts s) (hn : 4 ≤ s.n) (hs : s.n ≤ 1024) (hlo : s.lo.length < 600000) (h0 : (openSt s).2 = 0) :
    Calls Try.prog 12 #[.pointer (some ⟨D, 0, none⟩)] w fun r w' => ∃ B v, r = .returned (.tuple #[.pointer (some ⟨B, 0, none⟩), v, .int .i64 0]) ∧ ∃ F', PLog w' B D (openLg s) (openSt s).1 F' ∧ Step F F' w w' ∧ w.heap.size ≤ B ∧ ORows w' v s := by
  refine (open_in h hby hn hs hlo).mono ?_
  rintro r w' ⟨F', h1, h2, ⟨_, B, v, rfl, h3, h4, h5, h6⟩ | ⟨h3, _⟩⟩
  · obtain ⟨B0, _, h7⟩ := h6
    exact ⟨B, v, rfl, F', ⟨h3, h1, h5⟩, h2, h4, ORowsIn.rd h7 hs⟩
  · omega
theorem append_calm {w : World} {B D : Nat} {g : Lg} {s : St} {F : Nat → Prop} (h : PLog w B D g s F) (hc : Calm s) (hd : g.down = false) (hn : 4 ≤ s.n) (hs : s.n ≤ 1024) (hgen : g.gen ≤ 2147483647) (a : Option Addr) (len cap : Nat) (f : Nat → Nat) (hl : len ≤ 8192) (hcap : len ≤ cap)
    (hr : Rw w a len f) (hf : ∀ i, i < len → f i < 256) (ha : ∀ x, a = some x → 0 < len → ¬ F x.block) (hfit : fit s.n g.at_ (toOf s.n g.gen : Int) len = true) :
    Calls Try.prog 15 #[.pointer (some ⟨B, 0, none⟩), .slice a len cap] w fun r w' => r = .returned (.int .i64 0) ∧ ∃ F', PLog w' B D { g with at_ := g.at_ + cnt len } (s.lay g.at_ (ent g.gen f len) (cnt len)).1 F' ∧ PStep B F F' w w' := by
  have h0 := (calm_lay hc g.at_ g.gen f len hf).1
  refine (pappend_any h hn hs (by rw [lo_calm hc]; omega) hgen a len cap f hcap hr hf ha).mono ?_
  rintro r w' ⟨h1, F', h2, h3⟩
  rw [append_ok hd (by omega) hfit h0] at h1 h2
  exact ⟨h1, F', h2, h3⟩
theorem append_over {w : World} {B D : Nat} {g : Lg} {s : St} {F : Nat → Prop} (h : PLog w B D g s F) (hc : Calm s) (hd : g.down = false) (hn : 4 ≤ s.n) (hs : s.n ≤ 1024) (hgen : g.gen ≤ 2147483647) (a : Option Addr) (len cap : Nat) (f : Nat → Nat) (hl : len ≤ 8192) (hcap : len ≤ cap)
    (hr : Rw w a len f) (hf : ∀ i, i < len → f i < 256) (ha : ∀ x, a = some x → 0 < len → ¬ F x.block) (hfit : fit s.n g.at_ (toOf s.n g.gen : Int) len = false) :
    Calls Try.prog 15 #[.pointer (some ⟨B, 0, none⟩), .slice a len cap] w fun r w' => r = .returned (.int .i64 3) ∧ ∃ F', PLog w' B D g s F' ∧ PStep B F F' w w' := by
  refine (pappend_any h hn hs (by rw [lo_calm hc]; omega) hgen a len cap f hcap hr hf ha).mono ?_
  rintro r w' ⟨h1, F', h2, h3⟩
  rw [append_full hd (by omega) hfit] at h1 h2
  exact ⟨h1, F', h2, h3⟩
theorem check_calm {w : World} {B D : Nat} {g : Lg} {s : St} {F : Nat → Prop} (h : PLog w B D g s F) (hc : Calm s) (hd : g.down = false) (hn : 4 ≤ s.n) (hs : s.n ≤ 1024) (hgen : g.gen < 2147483647) (a : Option Addr) (len cap : Nat) (f : Nat → Nat) (hl : len ≤ 8192) (hcap : len ≤ cap)
    (hr : Rw w a len f) (hf : ∀ i, i < len → f i < 256) (ha : ∀ x, a = some x → 0 < len → ¬ F x.block) (hroom : cnt len ≤ half s.n) :
    Calls Try.prog 17 #[.pointer (some ⟨B, 0, none⟩), .slice a len cap] w fun r w' => r = .returned (.int .i64 0) ∧ ∃ F', PLog w' B D ⟨g.gen + 1, fromOf s.n (g.gen + 1) + cnt len, false⟩ (checkSt s (g.gen + 1) f len).1 F' ∧ PStep B F F' w w' := by
  have h0 := (calm_check hc (g.gen + 1) f len hn hf hroom).1
  refine (pcheck_any h hn hs (by rw [lo_calm hc]; omega) a len cap f hcap hr hf ha).mono ?_
  rintro r w' ⟨h1, F', h2, h3⟩
  rw [check_ok hd (by omega) (by omega) h0] at h1 h2
  exact ⟨h1, F', h2, h3⟩
theorem check_over {w : World} {B D : Nat} {g : Lg} {s : St} {F : Nat → Prop} (h : PLog w B D g s F) (hc : Calm s) (hd : g.down = false) (hn : 4 ≤ s.n) (hs : s.n ≤ 1024) (a : Option Addr) (len cap : Nat) (f : Nat → Nat) (hl : len ≤ 8192) (hcap : len ≤ cap)
    (hr : Rw w a len f) (hf : ∀ i, i < len → f i < 256) (ha : ∀ x, a = some x → 0 < len → ¬ F x.block) (hroom : half s.n < cnt len) :
    Calls Try.prog 17 #[.pointer (some ⟨B, 0, none⟩), .slice a len cap] w fun r w' => r = .returned (.int .i64 3) ∧ ∃ F', PLog w' B D g s F' ∧ PStep B F F' w w' := by
  refine (pcheck_any h hn hs (by rw [lo_calm hc]; omega) a len cap f hcap hr hf ha).mono ?_
  rintro r w' ⟨h1, F', h2, h3⟩
  rw [check_full hd (by omega) (.inr hroom)] at h1 h2
  exact ⟨h1, F', h2, h3⟩
/-- All of a call's blocks are new since B0. -/
theorem PStep.below {B : Nat} {F F' : Nat → Prop} {w w' : World} (h : PStep B F F' w w') {B0 : Nat} (h0 : B0 ≤ w.heap.size) (hF : ∀ b, F b → B0 ≤ b) (hB : B0 ≤ B) : Below B0 w w' ∧ (∀ b, F' b → B0 ≤ b) ∧ B0 ≤ w'.heap.size :=
  ⟨h.1.below B0 h0 (fun b hb => by rcases hb with hb | hb; exact hF b hb; omega), fun b hb => by rcases h.2 b hb with h1 | h1; exact hF b h1; omega, Nat.le_trans h0 h.1.size⟩
end Go.Proofs.Ytbecchoidglaeaa
