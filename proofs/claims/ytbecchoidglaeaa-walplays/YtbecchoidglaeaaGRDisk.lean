/- The document's own disk in memory ('RDisk'): the same plain numbers 'St' as the program's, but for 'now'. -/
import Derived.Test.YtbecchoidglaeaaGRef
import Derived.Laws.OwnMore
namespace Go.Proofs.Ytbecchoidglaeaa
open Go.RowKit
set_option maxRecDepth 100000

theorem own_keeps {w w' : World} {base e size n : Nat} {v : Value} {xs : List Value} {F : Nat → Prop} (h : w.ownsRow base e size v n xs) (hk : Keeps F w w') (hn : ∀ g, v.ownBlock = some g → ¬ F g) : w'.ownsRow base e size v n xs := by
  refine ⟨h.1, ?_⟩
  rcases h.2 with hh | ⟨g, cap, cur, rfl, hb, hg, rest⟩
  · exact .inl hh
  · refine .inr ⟨g, cap, cur, rfl, hb, ?_, rest⟩
    rw [hk.block g (ownBlock_lt h g rfl) (hn g rfl)]
    exact hg

/-- v is a slice of the 64 bytes f, in one of the blocks P. -/
def PageAt (w : World) (P : Nat → Prop) (v : Value) (f : Nat → Nat) : Prop :=
  ∃ b off cap, v = .slice (some ⟨b, off, none⟩) 64 cap ∧ 64 ≤ cap ∧ P b ∧ ∀ j, j < 64 → w.cell? ⟨b, off + j, none⟩ = some (.int .u8 (f j : Int))
section
variable {w w' : World} {P Q G : Nat → Prop} {v : Value} {f g : Nat → Nat}
theorem PageAt.keeps (h : PageAt w P v f) (hk : Keeps G w w') (hn : ∀ b, P b → ¬ G b) : PageAt w' P v f := by
  obtain ⟨b, off, cap, hv, hc, hp, hf⟩ := h
  exact ⟨b, off, cap, hv, hc, hp, fun j hj => by rw [hk.cell _ (World.block_lt_of_cell? w _ (hf j hj)) (hn b hp)]; exact hf j hj⟩
theorem PageAt.mono (h : PageAt w P v f) (hp : ∀ b, P b → Q b) : PageAt w Q v f := by
  obtain ⟨b, off, cap, hv, hc, hpb, hf⟩ := h
  exact ⟨b, off, cap, hv, hc, hp b hpb, hf⟩
theorem PageAt.congr (h : PageAt w P v f) (e : ∀ j, j < 64 → f j = g j) : PageAt w P v g := by
  obtain ⟨b, off, cap, hv, hc, hpb, hf⟩ := h
  exact ⟨b, off, cap, hv, hc, hpb, fun j hj => by rw [← e j hj]; exact hf j hj⟩
theorem PageAt.rw (h : PageAt w P v f) : ∃ a cap, v = .slice a 64 cap ∧ Rw w a 64 f ∧ 64 ≤ cap := by
  obtain ⟨b, off, cap, hv, hc, hpb, hf⟩ := h
  exact ⟨_, cap, hv, ⟨by unfold maxLen; omega, fun _ => ⟨b, off, rfl, hf⟩⟩, hc⟩
theorem page_of_rw {b cap : Nat} (h : Rw w (some ⟨b, 0, none⟩) 64 f) (hp : P b) (hc : 64 ≤ cap) : PageAt w P (.slice (some ⟨b, 0, none⟩) 64 cap) f := by
  obtain ⟨b', off', e, hf⟩ := h.2 (by omega)
  injection e with e
  injection e with e1 e2 _
  subst e1 e2
  exact ⟨b, 0, cap, rfl, hc, hp, hf⟩
end

/-- A loose Write's two cells. -/
def rwl (x : Nat × Value) : List Value := [.int .i64 (x.1 : Int), x.2]
def rws (l : List (Nat × Value)) : List Value := l.flatMap rwl
theorem rws_length (l : List (Nat × Value)) : (rws l).length = l.length * 2 := by
  induction l with
  | nil => rfl
  | cons x r ih =>
    have e : rws (x :: r) = .int .i64 (x.1 : Int) :: x.2 :: rws r := by simp [rws, rwl]
    rw [e, List.length_cons, List.length_cons, ih, List.length_cons]; omega
theorem rws_snoc (l : List (Nat × Value)) (x : Nat × Value) : rws (l ++ [x]) = rws l ++ rwl x := by simp [rws]
theorem rws_get (l : List (Nat × Value)) : ∀ (k : Nat) (x : Nat × Value), l[k]? = some x → (rws l)[k * 2]? = some (.int .i64 (x.1 : Int)) ∧ (rws l)[k * 2 + 1]? = some x.2 := by
  induction l with
  | nil => intro k x h; simp at h
  | cons y r ih =>
    intro k x h
    have e : rws (y :: r) = .int .i64 (y.1 : Int) :: y.2 :: rws r := by simp [rws, rwl]
    rw [e]
    cases k with
    | zero => simp at h; subst h; simp
    | succ k =>
      rw [show (k + 1) * 2 = k * 2 + 1 + 1 from by omega, show k * 2 + 1 + 1 + 1 = (k * 2 + 1) + 1 + 1 from by omega]
      simp only [List.getElem?_cons_succ]
      exact ih k x (by simpa using h)

/-- The document's fuse: below 0, none. -/
def St.fz (s : St) : Int := if s.fused then (s.left : Int) else -1

structure RefIn (w : World) (V : Nat) (sv lv : Value) (pgs : List Value) (lps : List (Nat × Value)) (P : Nat → Prop) (s : St) : Prop where
  block : w.heap[V]? = some (.cells #[sv, lv, .int .i64 s.fz, .bool s.down] 45 (0, 0))
  so : w.ownsRow 0 37 1 sv s.n pgs
  lo : w.ownsRow 0 98 2 lv s.lo.length (rws lps)
  pg : ∀ i, i < s.n → ∃ v, pgs[i]? = some v ∧ PageAt w P v (s.lasts i)
  lp : ∀ (k : Nat) (x : Nat × (Nat → Nat)), s.lo[k]? = some x → ∃ v, lps[k]? = some (x.1, v) ∧ PageAt w P v x.2
  sV : sv.ownBlock ≠ some V
  lV : lv.ownBlock ≠ some V
  sl : ∀ b, sv.ownBlock = some b → lv.ownBlock ≠ some b
  pV : ¬ P V
  ps : ∀ b, sv.ownBlock = some b → ¬ P b
  pl : ∀ b, lv.ownBlock = some b → ¬ P b
  plt : ∀ b, P b → b < w.heap.size
  nn : s.n ≤ 1024
  ats : ∀ x ∈ s.lo, x.1 < s.n
  many : s.lo.length ≤ 1000000
  small : s.left < 9223372036854775808

/-- The blocks that the disk's calls turn. -/
def rfoot (V : Nat) (sv lv : Value) : Nat → Prop := fun b => b = V ∨ sv.ownBlock = some b ∨ lv.ownBlock = some b
/-- The document's disk at block V is s; its calls turn the blocks W; its pages lie in the blocks P. -/
def RDisk (w : World) (V : Nat) (s : St) (W P : Nat → Prop) : Prop := ∃ sv lv pgs lps, RefIn w V sv lv pgs lps P s ∧ W = rfoot V sv lv

section
variable {w : World} {V : Nat} {sv lv : Value} {pgs : List Value} {lps : List (Nat × Value)} {P : Nat → Prop} {s : St}
theorem RefIn.c0 (h : RefIn w V sv lv pgs lps P s) : w.cell? ⟨V, 0, none⟩ = some sv := by rw [cell_of_row w V 0 _ _ _ h.block]; rfl
theorem RefIn.c1 (h : RefIn w V sv lv pgs lps P s) : w.cell? ⟨V, 1, none⟩ = some lv := by rw [cell_of_row w V 1 _ _ _ h.block]; rfl
theorem RefIn.c2 (h : RefIn w V sv lv pgs lps P s) : w.cell? ⟨V, 2, none⟩ = some (.int .i64 s.fz) := by rw [cell_of_row w V 2 _ _ _ h.block]; rfl
theorem RefIn.c3 (h : RefIn w V sv lv pgs lps P s) : w.cell? ⟨V, 3, none⟩ = some (.bool s.down) := by rw [cell_of_row w V 3 _ _ _ h.block]; rfl
theorem RefIn.fz (h : RefIn w V sv lv pgs lps P s) (i : Nat) : w.frozen? ⟨V, i, none⟩ = false := by simp [World.frozen?, h.block]
theorem RefIn.lt (h : RefIn w V sv lv pgs lps P s) : V < w.heap.size := by
  rcases Nat.lt_or_ge V w.heap.size with hlt | hge
  · exact hlt
  · have := h.block; rw [Array.getElem?_eq_none hge] at this; cases this
theorem RefIn.foot_lt (h : RefIn w V sv lv pgs lps P s) (b : Nat) (hb : rfoot V sv lv b) : b < w.heap.size := by
  rcases hb with rfl | hb | hb
  · exact h.lt
  · exact ownBlock_lt h.so b hb
  · exact ownBlock_lt h.lo b hb
theorem RefIn.apart (h : RefIn w V sv lv pgs lps P s) (b : Nat) (hb : rfoot V sv lv b) : ¬ P b := by
  rcases hb with rfl | hb | hb
  · exact h.pV
  · exact h.ps b hb
  · exact h.pl b hb
theorem RefIn.sform (h : RefIn w V sv lv pgs lps P s) : ∃ a cap, sv = .slice a s.n cap ∧ (0 < s.n → ∃ g, a = some ⟨g, 0, none⟩) := by
  rcases h.so.2 with ⟨e, h0⟩ | ⟨g, cap, cur, e, _, _, hc, _⟩
  · exact ⟨none, 0, by rw [e, h0], fun hp => by omega⟩
  · exact ⟨_, cap, e, fun _ => ⟨g, rfl⟩⟩
theorem RefIn.lform (h : RefIn w V sv lv pgs lps P s) : ∃ a cap, lv = .slice a s.lo.length cap ∧ (0 < s.lo.length → ∃ g, a = some ⟨g, 0, none⟩) := by
  rcases h.lo.2 with ⟨e, h0⟩ | ⟨g, cap, cur, e, _, _, hc, _⟩
  · exact ⟨none, 0, by rw [e, h0], fun hp => by omega⟩
  · exact ⟨_, cap, e, fun _ => ⟨g, rfl⟩⟩
/-- It stands where none of its blocks is turned. -/
theorem RefIn.keeps (h : RefIn w V sv lv pgs lps P s) {G : Nat → Prop} {w' : World} (hk : Keeps G w w') (hn : ∀ b, rfoot V sv lv b → ¬ G b) (hp : ∀ b, P b → ¬ G b) : RefIn w' V sv lv pgs lps P s :=
  { h with
    block := by rw [hk.block V h.lt (hn V (.inl rfl))]; exact h.block
    so := own_keeps h.so hk (fun g e => hn g (.inr (.inl e)))
    lo := own_keeps h.lo hk (fun g e => hn g (.inr (.inr e)))
    pg := fun i hi => by obtain ⟨v, e, hv⟩ := h.pg i hi; exact ⟨v, e, hv.keeps hk hp⟩
    lp := fun k x hx => by obtain ⟨v, e, hv⟩ := h.lp k x hx; exact ⟨v, e, hv.keeps hk hp⟩
    plt := fun b hb => Nat.lt_of_lt_of_le (h.plt b hb) hk.size }
theorem RefIn.drew (h : RefIn w V sv lv pgs lps P s) : RefIn w.drew V sv lv pgs lps P s := h.keeps (G := fun _ => False) (Keeps.refl _ _).drew (fun _ _ h => h) (fun _ _ h => h)
theorem RefIn.alloc (h : RefIn w V sv lv pgs lps P s) (o : Obj) : RefIn (w.alloc o) V sv lv pgs lps P s := h.keeps (G := fun _ => False) ((Keeps.refl _ _).alloc o) (fun _ _ h => h) (fun _ _ h => h)
/-- A loose one, read. -/
theorem RefIn.loose {g cap n : Nat} (h : RefIn w V sv (.slice (some ⟨g, 0, none⟩) n cap) pgs lps P s) (k : Nat) (x : Nat × (Nat → Nat)) (hx : s.lo[k]? = some x) :
    ∃ v, w.cell? ⟨g, k * 2, none⟩ = some (.int .i64 (x.1 : Int)) ∧ w.cell? ⟨g, k * 2 + 1, none⟩ = some v ∧ PageAt w P v x.2 := by
  obtain ⟨v, hv, hp⟩ := h.lp k x hx
  have hk : k < s.lo.length := (List.getElem?_eq_some_iff.1 hx).1
  have hn : n = s.lo.length := by
    rcases h.lo.2 with ⟨e, _⟩ | ⟨g', cap', cur, e, _⟩
    · cases e
    · injection e
  subst hn
  have e := rws_get lps k _ hv
  exact ⟨v, by rw [h.lo.cellAt (k * 2) (by omega)]; exact e.1, by rw [h.lo.cellAt (k * 2 + 1) (by omega)]; exact e.2, hp⟩
/-- A page, read. -/
theorem RefIn.page {g cap n : Nat} (h : RefIn w V (.slice (some ⟨g, 0, none⟩) n cap) lv pgs lps P s) (i : Nat) (hi : i < s.n) : ∃ v, w.cell? ⟨g, i, none⟩ = some v ∧ PageAt w P v (s.lasts i) := by
  obtain ⟨v, hv, hp⟩ := h.pg i hi
  have hn : n = s.n := by
    rcases h.so.2 with ⟨e, _⟩ | ⟨g', cap', cur, e, _⟩
    · cases e
    · injection e
  subst hn
  exact ⟨v, by rw [h.so.cellAt i (by omega)]; exact hv, hp⟩
/-- The two cells of the fuse are others now. -/
theorem RefIn.fuseSet (h : RefIn w V sv lv pgs lps P s) (s' : St) (hn : s'.n = s.n) (hl : s'.lo = s.lo) (hla : s'.lasts = s.lasts) (hs : s'.left < 9223372036854775808) (w' : World) (hk : Keeps (fun b => b = V) w w')
    (hb : w'.heap[V]? = some (.cells #[sv, lv, .int .i64 s'.fz, .bool s'.down] 45 (0, 0))) : RefIn w' V sv lv pgs lps P s' where
  block := hb
  so := by rw [hn]; exact own_keeps h.so hk (fun g e e2 => by subst e2; exact h.sV e)
  lo := by rw [hl]; exact own_keeps h.lo hk (fun g e e2 => by subst e2; exact h.lV e)
  pg := fun i hi => by
    rw [hn] at hi; rw [hla]
    obtain ⟨v, e, hv⟩ := h.pg i hi; exact ⟨v, e, hv.keeps hk (fun b hpb e => h.pV (e ▸ hpb))⟩
  lp := fun k x hx => by
    rw [hl] at hx
    obtain ⟨v, e, hv⟩ := h.lp k x hx; exact ⟨v, e, hv.keeps hk (fun b hpb e => h.pV (e ▸ hpb))⟩
  sV := h.sV
  lV := h.lV
  sl := h.sl
  pV := h.pV
  ps := h.ps
  pl := h.pl
  plt := fun b hb => Nat.lt_of_lt_of_le (h.plt b hb) hk.size
  nn := by rw [hn]; exact h.nn
  ats := by rw [hn, hl]; exact h.ats
  many := by rw [hl]; exact h.many
  small := hs
/-- One page is another one now. -/
theorem RefIn.setPage {g cap n : Nat} (h : RefIn w V (.slice (some ⟨g, 0, none⟩) n cap) lv pgs lps P s) (i : Nat) (hi : i < s.n) (v : Value) (f : Nat → Nat) (hv : PageAt w P v f) :
    RefIn (w.setCell ⟨g, i, none⟩ v) V (.slice (some ⟨g, 0, none⟩) n cap) lv (pgs.set i v) lps P { s with lasts := fun k => if k = i then f else s.lasts k } := by
  have hn : n = s.n := by
    rcases h.so.2 with ⟨e, _⟩ | ⟨g', cap', cur, e, _⟩
    · cases e
    · injection e
  subst hn
  have hgV : g ≠ V := fun e => h.sV (by rw [← e]; rfl)
  have hk : Keeps (fun b => b = g) w (w.setCell ⟨g, i, none⟩ v) := (Keeps.refl _ _).setCell g i v (.inl rfl)
  have hP : ∀ b, P b → ¬ b = g := fun b hb e => by subst e; exact h.ps b rfl hb
  have hlen : pgs.length = s.n := by have := h.so.1; omega
  exact
  { h with
    block := by rw [heap_setCell w g i v V (Ne.symm hgV)]; exact h.block
    so := (h.so.stored i v).1
    lo := own_keeps h.lo hk (fun b e e2 => by subst e2; exact h.sl b rfl e)
    pg := fun k hk2 => by
      by_cases e : k = i
      · subst e
        exact ⟨v, by rw [List.getElem?_set_self (by omega)], by simpa using hv.keeps hk hP⟩
      · obtain ⟨u, hu, hp⟩ := h.pg k hk2
        refine ⟨u, by rw [List.getElem?_set_ne (Ne.symm e)]; exact hu, ?_⟩
        simp only [if_neg e]
        exact hp.keeps hk hP
    lp := fun k x hx => by obtain ⟨u, e, hu⟩ := h.lp k x hx; exact ⟨u, e, hu.keeps hk hP⟩
    plt := fun b hb => Nat.lt_of_lt_of_le (h.plt b hb) hk.size }
/-- More pages, that nobody reads yet. -/
theorem RefIn.more (h : RefIn w V sv lv pgs lps P s) {Q : Nat → Prop} (hQ : ∀ b, P b → Q b) (hlt : ∀ b, Q b → b < w.heap.size) (hn : ∀ b, rfoot V sv lv b → ¬ Q b) : RefIn w V sv lv pgs lps Q s :=
  { h with
    pg := fun i hi => by obtain ⟨v, e, hv⟩ := h.pg i hi; exact ⟨v, e, hv.mono hQ⟩
    lp := fun k x hx => by obtain ⟨v, e, hv⟩ := h.lp k x hx; exact ⟨v, e, hv.mono hQ⟩
    pV := hn V (.inl rfl)
    ps := fun b e => hn b (.inr (.inl e))
    pl := fun b e => hn b (.inr (.inr e))
    plt := hlt }
theorem RefIn.congr (h : RefIn w V sv lv pgs lps P s) (g : Nat → Nat → Nat) (e : ∀ i, i < s.n → ∀ j, j < 64 → s.lasts i j = g i j) : RefIn w V sv lv pgs lps P { s with lasts := g } :=
  { h with pg := fun i hi => by obtain ⟨v, e2, hv⟩ := h.pg i hi; exact ⟨v, e2, hv.congr (e i hi)⟩ }
theorem RefIn.nowly (h : RefIn w V sv lv pgs lps P s) (g : Nat → Nat → Nat) : RefIn w V sv lv pgs lps P { s with now := g } := { h with }
end
/-- The loose ones are others now, in a row of their own, and stored. -/
theorem RefIn.turnLoose {w w1 : World} {V : Nat} {sv lv lv1 : Value} {pgs : List Value} {lps lps1 : List (Nat × Value)} {P Q : Nat → Prop} {s : St} (h : RefIn w V sv lv pgs lps P s) {F : Nat → Prop} (hk : Keeps F w w1)
    (hF : ∀ b, b < w.heap.size → F b → lv.ownBlock = some b) (lo : List (Nat × (Nat → Nat))) (hown : w1.ownsRow 0 98 2 lv1 lo.length (rws lps1))
    (hv : ∀ b, lv1.ownBlock = some b → lv.ownBlock = some b ∨ w.heap.size ≤ b) (hQ : ∀ b, P b → Q b) (hQlt : ∀ b, Q b → b < w1.heap.size) (hQn : ∀ b, Q b → P b ∨ w.heap.size ≤ b) (hQv : ∀ b, Q b → lv1.ownBlock ≠ some b)
    (hlp : ∀ (k : Nat) (x : Nat × (Nat → Nat)), lo[k]? = some x → ∃ v, lps1[k]? = some (x.1, v) ∧ PageAt w1 Q v x.2)
    (hats : ∀ x ∈ lo, x.1 < s.n) (hmany : lo.length ≤ 1000000) : RefIn (w1.setCell ⟨V, 1, none⟩ lv1) V sv lv1 pgs lps1 Q { s with lo := lo } := by
  have nV : ¬ F V := fun hf => h.lV (hF V h.lt hf)
  have nS : ∀ b, sv.ownBlock = some b → ¬ F b := fun b e hf => h.sl b e (hF b (ownBlock_lt h.so b e) hf)
  have nP : ∀ b, P b → ¬ F b := fun b e hf => h.pl b (hF b (h.plt b e) hf) e
  have hb1 := h.block
  rw [← hk.block V h.lt nV] at hb1
  have hks : Keeps (fun b => b = V) w1 (w1.setCell ⟨V, 1, none⟩ lv1) := (Keeps.refl _ _).setCell V 1 _ (.inl rfl)
  have l1V : lv1.ownBlock ≠ some V := fun e => by have := h.lt; rcases hv V e with h1 | h1; exact h.lV h1; omega
  have QV : ¬ Q V := fun e => by have := h.lt; rcases hQn V e with h1 | h1; exact h.pV h1; omega
  have hPV : ∀ b, Q b → ¬ b = V := fun b hb e => by subst e; exact QV hb
  exact
  { h with
    block := heap_set_at w1 V 1 _ _ _ lv1 hb1
    so := own_keeps (own_keeps h.so hk nS) hks (fun g e e2 => by subst e2; exact h.sV e)
    lo := own_keeps hown hks (fun g e e2 => by subst e2; exact l1V e)
    pg := fun i hi => by obtain ⟨v, e, hv⟩ := h.pg i hi; exact ⟨v, e, ((hv.keeps hk nP).mono hQ).keeps hks hPV⟩
    lp := fun k x hx => by obtain ⟨v, e, hv⟩ := hlp k x hx; exact ⟨v, e, hv.keeps hks hPV⟩
    lV := l1V
    sl := fun b e e2 => by have := ownBlock_lt h.so b e; rcases hv b e2 with h1 | h1; exact h.sl b e h1; omega
    pV := QV
    ps := fun b e hq => by have := ownBlock_lt h.so b e; rcases hQn b hq with h1 | h1; exact h.ps b e h1; omega
    pl := fun b e hq => hQv b hq e
    plt := fun b hb => Nat.lt_of_lt_of_le (hQlt b hb) hks.size
    ats := hats
    many := hmany }
theorem RDisk.keeps {w w' : World} {V : Nat} {s : St} {W P G : Nat → Prop} (h : RDisk w V s W P) (hk : Keeps G w w') (hn : ∀ b, W b → ¬ G b) (hp : ∀ b, P b → ¬ G b) : RDisk w' V s W P := by
  obtain ⟨sv, lv, pgs, lps, h, rfl⟩ := h
  exact ⟨sv, lv, pgs, lps, h.keeps hk hn hp, rfl⟩
theorem RDisk.lt {w : World} {V : Nat} {s : St} {W P : Nat → Prop} (h : RDisk w V s W P) (b : Nat) (hb : W b ∨ P b) : b < w.heap.size := by
  obtain ⟨sv, lv, pgs, lps, h, rfl⟩ := h
  rcases hb with hb | hb
  · exact h.foot_lt b hb
  · exact h.plt b hb
theorem RDisk.V {w : World} {V : Nat} {s : St} {W P : Nat → Prop} (h : RDisk w V s W P) : W V ∧ V < w.heap.size := by
  obtain ⟨sv, lv, pgs, lps, h, rfl⟩ := h
  exact ⟨.inl rfl, h.lt⟩
theorem RDisk.nowly {w : World} {V : Nat} {s : St} {W P : Nat → Prop} (h : RDisk w V s W P) (g : Nat → Nat → Nat) : RDisk w V { s with now := g } W P := by
  obtain ⟨sv, lv, pgs, lps, h, rfl⟩ := h
  exact ⟨sv, lv, pgs, lps, h.nowly g, rfl⟩
/-- Only the blocks W are turned; what is W' or P' now was W or P, or is new. -/
def RStep (W P W' P' : Nat → Prop) (w w' : World) : Prop := Keeps W w w' ∧ (∀ b, W' b → W b ∨ w.heap.size ≤ b) ∧ ∀ b, P' b → P b ∨ w.heap.size ≤ b
end Go.Proofs.Ytbecchoidglaeaa
/- append of bytes, whatever is appended: its run, and a law for the walk. -/
namespace Go.Proofs.Ytbecchoidglaeaa
open Go.RowKit
set_option maxRecDepth 100000

theorem run_append_in (w : World) (g0 c0 n : Nat) (xs : List Value) (hown : w.ownsRow 0 5 1 (.slice (some ⟨g0, 0, none⟩) n c0) n xs) (ba : Option Addr) (bl bc : Nat) (f : Nat → Nat) (hr : Rw w ba bl f) (hn : ba = none → bl = 0 ∧ bc = 0) (hs : n + bl ≤ 1000000) :
    ∃ g1 c1 w1, (Builtin.append_ #[37, 37] 37 #[.slice (some ⟨g0, 0, none⟩) n c0, .slice ba bl bc]).run Try.prog w = .ok (.slice (some ⟨g1, 0, none⟩) (n + bl) c1) w1 ∧
      w1.ownsRow 0 5 1 (.slice (some ⟨g1, 0, none⟩) (n + bl) c1) (n + bl) (xs ++ valsOf f bl) ∧ Keeps (fun b => b = g0) w w1 ∧ (g1 = g0 ∨ g1 = w.heap.size) := by
  obtain ⟨i0, hi0, hz0, hz1, hz2⟩ := info_parts Try.infoU8
  cases ba with
  | none =>
    obtain ⟨rfl, rfl⟩ := hn rfl
    have := run_append_owned_none (P := Try.prog) w 0 37 37 5 i0 1 Try.underlying37 hi0 _ n xs hown
    exact ⟨g0, c0, w, this, by simpa [valsOf] using hown, Keeps.refl _ _, .inl rfl⟩
  | some x =>
    obtain ⟨v', w', hrun, ho, hg, hnil, hat⟩ := run_append_own_at (P := Try.prog) w 0 37 37 5 i0 _ 1 1 Try.underlying37 hi0 hz0 hz1 hz2 rfl (by omega) _ n xs hown x bl bc (valsOf f bl) (by rw [valsOf_length]; omega)
      (fun j u hu => by
        have hj : j < bl := by simpa [valsOf_length] using (List.getElem?_eq_some_iff.1 hu).1
        obtain ⟨b, off, e, hc⟩ := hr.2 (by omega)
        injection e with e
        subst e
        rw [valsOf_get _ _ _ hj] at hu
        rw [Addr.add_mid, hc j hj, hu]) (valsOf_one f bl) (by unfold maxLen; omega) (by omega) (Nat.zero_le _)
    rcases ho.2 with ⟨e, _⟩ | ⟨g1, c1, cur, e, _⟩
    · have := (hnil.1 e).1
      cases this
    · subst e
      refine ⟨g1, c1, w', hrun, ho, (Keeps.refl _ w).grown hg (fun b e => .inl ?_), ?_⟩
      · simp [Value.ownBlock] at e; exact e.symm
      · simp [Value.ownBlock] at hat
        exact hat
section
variable {P : Program} {ops : Array Oper} {rest : List Oper} {a : Act} {w w' : World} {Q : Exit → Act → World → Prop} {dst : Option Tmp} {ty : TypeId} {pos : String} {after : Array Edge}
theorem wpl_append (d s : Operand) (t : TypeId) (p v : Value) (r : Value) (hd : a.eval d = p) (hs : a.eval s = v) (hr : (Builtin.append_ #[t, t] ty #[p, v]).run P w = .ok r w') (h : wpList P ops Q rest (a.put dst r) w') :
    wpList P ops Q ({ dst := dst, op := .call { callee := .builtin .append, args := #[d, s], argTypes := #[t, t] }, type := ty, pos := pos, after := after, guard := none } :: rest) a w :=
  wpList_plain rfl fun K hK => by
    unfold Oper.wp execOp
    simp only [resolve, invoke, builtin, Sem.run_bind, Sem.run_pure, Result.andThen_ok, List.map_toArray, List.map_cons, List.map_nil, hd, hs, hr]
    exact hK _ _ h
end
end Go.Proofs.Ytbecchoidglaeaa
