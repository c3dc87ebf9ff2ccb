/- Two logs beside each other, the program's and the document's ('LP'); what stays true of them in plain numbers ('Inv'). -/
import Derived.Test.YtbecchoidglaeaaGCalm
import Derived.Test.YtbecchoidglaeaaRLogO
import Derived.Test.YtbecchoidglaeaaGPair
namespace Go.Proofs.Ytbecchoidglaeaa
open Go.RowKit
set_option maxRecDepth 100000

/-- The program's log B over its disk D is g1, s1; the document's M over V is g2, s2; all apart, and new since w0; the blocks O are nobody's. -/
structure LP (w0 w : World) (D V B M : Nat) (g1 : Lg) (s1 : St) (g2 : Lg) (s2 : St) (O F W P : Nat → Prop) : Prop where
  q : Pair w D V s1 s2 F W P (fun b => b = B ∨ b = M ∨ O b) w0.heap.size
  pl : PLogIn w B D g1
  rl : LogIn w M V g2
  bm : B ≠ M
  hB : w0.heap.size ≤ B
  hM : w0.heap.size ≤ M
  ob : ∀ b, O b → b ≠ B ∧ b ≠ M
  bel : Below w0.heap.size w0 w
section
variable {w0 w w' : World} {D V B M : Nat} {g1 g2 g1' g2' : Lg} {s1 s2 s1' s2' : St} {O F W P F' W' P' : Nat → Prop}
theorem LP.plog (h : LP w0 w D V B M g1 s1 g2 s2 O F W P) : PLog w B D g1 s1 F := ⟨h.pl, h.q.d, (h.q.oo B (.inl rfl)).2.1⟩
theorem LP.rlog (h : LP w0 w D V B M g1 s1 g2 s2 O F W P) : RLog w M V g2 s2 W P := ⟨h.rl, h.q.r, (h.q.oo M (.inr (.inl rfl))).2.2.1, (h.q.oo M (.inr (.inl rfl))).2.2.2⟩
theorem LP.later (h : LP w0 w D V B M g1 s1 g2 s2 O F W P) (hb : Below w.heap.size w w') : LP w0 w' D V B M g1 s1 g2 s2 O F W P :=
  { h with q := h.q.later hb, pl := h.pl.keeps (F := fun _ => False) (Keeps.of_below hb _) (fun h => h), rl := h.rl.keeps (F := fun _ => False) (Keeps.of_below hb _) (fun h => h), bel := h.bel.trans (below_le hb h.bel.size) }
theorem LP.others (h : LP w0 w D V B M g1 s1 g2 s2 O F W P) {O' : Nat → Prop} (hO : ∀ b, O' b → O b ∨ (b < w.heap.size ∧ ¬ F b ∧ ¬ W b ∧ ¬ P b ∧ b ≠ B ∧ b ≠ M)) : LP w0 w D V B M g1 s1 g2 s2 O' F W P :=
  { h with
    q := h.q.others (fun b hb => by
      rcases hb with hb | hb | hb
      · exact .inl (.inl hb)
      · exact .inl (.inr (.inl hb))
      · rcases hO b hb with h1 | h1
        · exact .inl (.inr (.inr h1))
        · exact .inr ⟨h1.1, h1.2.1, h1.2.2.1, h1.2.2.2.1⟩)
    ob := fun b hb => by
      rcases hO b hb with h1 | h1
      · exact h.ob b h1
      · exact ⟨h1.2.2.2.2.1, h1.2.2.2.2.2⟩ }
/-- A step of the program's log. -/
theorem LP.stepP (h : LP w0 w D V B M g1 s1 g2 s2 O F W P) (hp : PLog w' B D g1' s1' F') (hst : PStep B F F' w w') : LP w0 w' D V B M g1' s1' g2 s2 O F' W P where
  q := {
    d := hp.d
    r := h.q.r.keeps hst.1 (fun b hb hf => by rcases hf with hf | hf; exact h.q.fw b hf hb; subst hf; exact (h.q.oo b (.inl rfl)).2.2.1 hb) (fun b hb hf => by rcases hf with hf | hf; exact h.q.fp b hf hb; subst hf; exact (h.q.oo b (.inl rfl)).2.2.2 hb)
    hF := fun b hb => by have := h.q.le; rcases hst.2 b hb with h1 | h1; exact h.q.hF b h1; omega
    hW := h.q.hW
    hP := h.q.hP
    fw := fun b hb hw => by rcases hst.2 b hb with h1 | h1; exact h.q.fw b h1 hw; have := h.q.r.lt b (.inl hw); omega
    fp := fun b hb hp => by rcases hst.2 b hb with h1 | h1; exact h.q.fp b h1 hp; have := h.q.r.lt b (.inr hp); omega
    oo := fun b hb => by
      have ho := h.q.oo b hb
      refine ⟨Nat.lt_of_lt_of_le ho.1 hst.1.size, fun hf => ?_, ho.2.2⟩
      rcases hst.2 b hf with h1 | h1
      · exact ho.2.1 h1
      · omega
    le := Nat.le_trans h.q.le hst.1.size }
  pl := hp.l
  rl := h.rl.keeps hst.1 (fun hf => by rcases hf with hf | hf; exact (h.q.oo M (.inr (.inl rfl))).2.1 hf; exact h.bm hf.symm)
  bm := h.bm
  hB := h.hB
  hM := h.hM
  ob := h.ob
  bel := h.bel.trans (hst.below h.q.le h.q.hF h.hB).1
/-- A step of the document's log. -/
theorem LP.stepR (h : LP w0 w D V B M g1 s1 g2 s2 O F W P) (hr : RLog w' M V g2' s2' W' P') (hst : LStep M W P W' P' w w') : LP w0 w' D V B M g1 s1 g2' s2' O F W' P' where
  q := {
    d := h.q.d.keeps hst.1 (fun b hb hw => by rcases hw with hw | hw; exact h.q.fw b hb hw; subst hw; exact (h.q.oo b (.inr (.inl rfl))).2.1 hb)
    r := hr.r
    hF := h.q.hF
    hW := fun b hb => by have := h.q.le; rcases hst.2.1 b hb with h1 | h1; exact h.q.hW b h1; omega
    hP := fun b hb => by have := h.q.le; rcases hst.2.2 b hb with h1 | h1; exact h.q.hP b h1; omega
    fw := fun b hb hw => by rcases hst.2.1 b hw with h1 | h1; exact h.q.fw b hb h1; have := h.q.d.lt b hb; omega
    fp := fun b hb hp => by rcases hst.2.2 b hp with h1 | h1; exact h.q.fp b hb h1; have := h.q.d.lt b hb; omega
    oo := fun b hb => by
      have ho := h.q.oo b hb
      refine ⟨Nat.lt_of_lt_of_le ho.1 hst.1.size, ho.2.1, fun hw => ?_, fun hp => ?_⟩
      · rcases hst.2.1 b hw with h1 | h1
        · exact ho.2.2.1 h1
        · omega
      · rcases hst.2.2 b hp with h1 | h1
        · exact ho.2.2.2 h1
        · omega
    le := Nat.le_trans h.q.le hst.1.size }
  pl := h.pl.keeps hst.1 (fun hf => by rcases hf with hf | hf; exact (h.q.oo B (.inl rfl)).2.2.1 hf; exact h.bm hf)
  rl := hr.l
  bm := h.bm
  hB := h.hB
  hM := h.hM
  ob := h.ob
  bel := h.bel.trans (hst.1.below _ h.q.le (fun b hb => by rcases hb with hb | hb; exact h.q.hW b hb; have := h.hM; omega))
theorem LP.blockP (h : LP w0 w D V B M g1 s1 g2 s2 O F W P) (hst : PStep B F F' w w') {b : Nat} (hb : O b) : w'.heap[b]? = w.heap[b]? :=
  hst.1.block b (h.q.oo b (.inr (.inr hb))).1 (fun hf => by rcases hf with hf | hf; exact (h.q.oo b (.inr (.inr hb))).2.1 hf; exact (h.ob b hb).1 hf)
theorem LP.blockR (h : LP w0 w D V B M g1 s1 g2 s2 O F W P) (hst : LStep M W P W' P' w w') {b : Nat} (hb : O b) : w'.heap[b]? = w.heap[b]? :=
  hst.1.block b (h.q.oo b (.inr (.inr hb))).1 (fun hf => by rcases hf with hf | hf; exact (h.q.oo b (.inr (.inr hb))).2.2.1 hf; exact (h.ob b hb).2 hf)
/-- A new log of the program. -/
theorem LP.newP (h : LP w0 w D V B M g1 s1 g2 s2 O F W P) {B' : Nat} (hp : PLog w' B' D g1' s1' F') (hst : Step F F' w w') (hB' : w.heap.size ≤ B') : LP w0 w' D V B' M g1' s1' g2 s2 O F' W P where
  q := (h.q.stepD hp.d hst).others (fun b hb => by
    rcases hb with hb | hb
    · subst hb
      exact .inr ⟨hp.l.lt, hp.nf, fun hw => by have := h.q.r.lt b (.inl hw); omega, fun hw => by have := h.q.r.lt b (.inr hw); omega⟩
    · exact .inl (.inr hb))
  pl := hp.l
  rl := h.rl.keeps hst.1 (h.q.oo M (.inr (.inl rfl))).2.1
  bm := fun e => by have := h.rl.lt; omega
  hB := by have := h.q.le; omega
  hM := h.hM
  ob := fun b hb => ⟨fun e => by have := (h.q.oo b (.inr (.inr hb))).1; omega, (h.ob b hb).2⟩
  bel := h.bel.trans (h.q.belowD hst)
/-- A new log of the document. -/
theorem LP.newR (h : LP w0 w D V B M g1 s1 g2 s2 O F W P) {M' : Nat} (hr : RLog w' M' V g2' s2' W' P') (hst : RStep W P W' P' w w') (hM' : w.heap.size ≤ M') : LP w0 w' D V B M' g1 s1 g2' s2' O F W' P' where
  q := (h.q.stepR hr.r hst).others (fun b hb => by
    rcases hb with hb | hb | hb
    · exact .inl (.inl hb)
    · subst hb
      exact .inr ⟨hr.l.lt, fun hf => by have := h.q.d.lt b hf; omega, hr.nw, hr.np⟩
    · exact .inl (.inr (.inr hb)))
  pl := h.pl.keeps hst.1 (h.q.oo B (.inl rfl)).2.2.1
  rl := hr.l
  bm := fun e => by have := h.pl.lt; omega
  hB := h.hB
  hM := by have := h.q.le; omega
  ob := fun b hb => ⟨(h.ob b hb).1, fun e => by have := (h.q.oo b (.inr (.inr hb))).1; omega⟩
  bel := h.bel.trans (h.q.belowR hst)
end
/-! ### In plain numbers -/
theorem made_pages {s : St} (h : Made s) (at_ : Nat) (G : Nat → Nat → Nat) : ∀ k, Made (pages s at_ G k).1
  | 0 => h
  | k + 1 => by
    unfold pages
    split
    · exact made_wr (made_pages h at_ G k) _ _
    · exact made_pages h at_ G k
theorem made_put {s : St} (h : Made s) (at_ : Nat) (f : Nat → Nat) (len : Nat) : Made (s.put at_ f len).1 := by
  unfold St.put
  simp only
  split
  · exact made_fl (made_pages h _ _ _)
  · exact made_pages h _ _ _
theorem made_lay {s : St} (h : Made s) (at_ gen : Nat) (f : Nat → Nat) (len : Nat) : Made (s.lay at_ (ent gen f len) (cnt len)).1 := by
  rw [lay_puts]
  split
  · exact made_put (made_put h _ _ _) _ _ _
  · exact made_put h _ _ _
/-- What stays true of a log and its disk of N sectors, at most c Writes loose. -/
structure Inv (N : Nat) (s : St) (g : Lg) (c : Nat) : Prop where
  good : Good N s
  lo : s.lo.length ≤ c
  gen : g.gen ≤ 2147483647
  at_ : g.at_ ≤ N
  n4 : 4 ≤ N
  n120 : N ≤ 120
theorem half_le {n : Nat} (h : n ≤ 120) : half n ≤ 60 := by unfold half; omega
theorem Inv.append {N : Nat} {s : St} {g : Lg} {c : Nat} (h : Inv N s g c) {f : Nat → Nat} {len : Nat} (hf : ∀ i, i < len → f i < 256) : Inv N (g.append s f len).1.1 (g.append s f len).1.2 (c + 300) := by
  have h0 : Inv N s g (c + 300) := { h with lo := by have := h.lo; omega }
  cases hd : g.down with
  | true => rw [append_down hd]; exact h0
  | false =>
    by_cases hl : 8192 < len
    · rw [append_arg hd hl]; exact h0
    · cases hf2 : fit s.n g.at_ (toOf s.n g.gen : Int) len with
      | false => rw [append_full hd hl hf2]; exact h0
      | true =>
        have hk : Good N (s.lay g.at_ (ent g.gen f len) (cnt len)).1 := ⟨made_lay h.good.1 _ _ _ _, h.good.2.1.layd _ _ hf, by rw [lay_n]; exact h.good.2.2⟩
        have hlo : (s.lay g.at_ (ent g.gen f len) (cnt len)).1.lo.length ≤ c + 300 := by have := lay_lo s g.at_ g.gen f len; have := h.lo; omega
        have hfi := (fit_iff _ _ _ _).1 hf2
        have hn := h.good.2.2
        rcases lay_cases s g.at_ g.gen f len with h1 | h1
        · rw [append_ok hd hl hf2 h1]
          exact { good := hk, lo := hlo, gen := h.gen, at_ := by show g.at_ + cnt len ≤ N; omega, n4 := h.n4, n120 := h.n120 }
        · rw [append_no hd hl hf2 h1]
          exact { good := hk, lo := hlo, gen := h.gen, at_ := h.at_, n4 := h.n4, n120 := h.n120 }
theorem andThen_good {N : Nat} {r : St × Nat} {k : St → St × Nat} {c c' : Nat} (h : Good N r.1 ∧ r.1.lo.length ≤ c) (hk : ∀ t, Good N t → t.lo.length ≤ c → Good N (k t).1 ∧ (k t).1.lo.length ≤ c') (hc : c ≤ c') : Good N (andThen r k).1 ∧ (andThen r k).1.lo.length ≤ c' := by
  by_cases h0 : r.2 = 0
  · rw [andThen_ok h0]; exact hk _ h.1 h.2
  · rw [andThen_no h0]; exact ⟨h.1, Nat.le_trans h.2 hc⟩
theorem clean_good {N : Nat} {s : St} (h : Good N s) (lo m : Nat) : Good N (s.clean lo m).1 ∧ (s.clean lo m).1.lo.length ≤ s.lo.length + m :=
  ⟨⟨made_clean h.1 _ _, bts_clean h.2.1 _ _, by rw [clean_n]; exact h.2.2⟩, clean_lo s lo m⟩
theorem layd_good {N : Nat} {s : St} (h : Good N s) (at_ gen : Nat) {f : Nat → Nat} {len : Nat} (hf : ∀ i, i < len → f i < 256) : Good N (s.lay at_ (ent gen f len) (cnt len)).1 ∧ (s.lay at_ (ent gen f len) (cnt len)).1.lo.length ≤ s.lo.length + (len + 63) / 64 + 1 :=
  ⟨⟨made_lay h.1 _ _ _ _, h.2.1.layd _ _ hf, by rw [lay_n]; exact h.2.2⟩, lay_lo s at_ gen f len⟩
theorem mark_good {N : Nat} {s : St} (h : Good N s) (g : Nat) : Good N (s.mark g).1 ∧ (s.mark g).1.lo.length ≤ s.lo.length + 1 :=
  ⟨⟨made_mark h.1 _, bts_mark h.2.1 _, by rw [mark_n]; exact h.2.2⟩, mark_lo s g⟩
theorem check_good {N : Nat} {s : St} (h : Good N s) (g : Nat) {f : Nat → Nat} {len : Nat} (hf : ∀ i, i < len → f i < 256) : Good N (checkSt s g f len).1 ∧ (checkSt s g f len).1.lo.length ≤ s.lo.length + half s.n + (len + 63) / 64 + 2 := by
  rw [checkSt_eq]
  refine andThen_good (clean_good h (fromOf s.n g) (half s.n)) (fun t ht hl => ?_) (by omega)
  have h1 := layd_good ht (fromOf s.n g) g hf
  refine andThen_good ⟨h1.1, Nat.le_trans h1.2 (show t.lo.length + (len + 63) / 64 + 1 ≤ s.lo.length + half s.n + (len + 63) / 64 + 1 by omega)⟩ (fun u hu hl2 => ?_) (by omega)
  have h2 := mark_good hu g
  exact ⟨h2.1, by omega⟩
theorem Inv.check {N : Nat} {s : St} {g : Lg} {c : Nat} (h : Inv N s g c) {f : Nat → Nat} {len : Nat} (hf : ∀ i, i < len → f i < 256) : Inv N (g.check s f len).1.1 (g.check s f len).1.2 (c + 300) := by
  have h0 : Inv N s g (c + 300) := { h with lo := by have := h.lo; omega }
  have hn := h.good.2.2
  cases hd : g.down with
  | true => rw [check_down hd]; exact h0
  | false =>
    by_cases hl : 8192 < len
    · rw [check_arg hd hl]; exact h0
    · by_cases hf2 : 2147483647 < g.gen + 1 ∨ half s.n < cnt len
      · rw [check_full hd hl hf2]; exact h0
      · obtain ⟨hk, hlo0⟩ := check_good h.good (g.gen + 1) hf
        have hh := half_le (n := s.n) (by rw [hn]; exact h.n120)
        have hlo : (checkSt s (g.gen + 1) f len).1.lo.length ≤ c + 300 := by have := h.lo; omega
        have hfo := fromOf_le s.n (g.gen + 1) (by rw [hn]; exact h.n4)
        have hto : toOf s.n (g.gen + 1) = fromOf s.n (g.gen + 1) + half s.n := rfl
        rcases checkSt_cases s (g.gen + 1) f len with h1 | h1
        · rw [check_ok hd hl hf2 h1]
          exact { good := hk, lo := hlo, gen := by show g.gen + 1 ≤ _; omega, at_ := by show fromOf s.n (g.gen + 1) + cnt len ≤ N; omega, n4 := h.n4, n120 := h.n120 }
        · rw [check_no hd hl hf2 rfl h1]
          exact { good := hk, lo := hlo, gen := h.gen, at_ := h.at_, n4 := h.n4, n120 := h.n120 }
theorem prep_good {N : Nat} {s : St} (h : Good N s) : Good N (prep s).1 ∧ (prep s).1.lo.length ≤ s.lo.length + half s.n + 1 := by
  by_cases e : genAt s = 0
  · rw [prep_begin e]
    exact ⟨⟨made_begin h.1, bts_begin h.2.1, by rw [begin_n]; exact h.2.2⟩, begin_lo s⟩
  · have : prep s = (s, 0) := by unfold prep; rw [if_neg e]
    rw [this]
    exact ⟨h, by show s.lo.length ≤ _; omega⟩
theorem toOf_small (n g : Nat) (h : n ≤ 120) : toOf n g ≤ 130 := by
  have hh := half_le h
  unfold toOf fromOf
  split <;> omega
theorem tail_good {N : Nat} {t : St} {c c' G m : Nat} (h : Good N t) (hl : t.lo.length ≤ c) (hm : m ≤ 130) (hc : c + 130 ≤ c') : Good N (t.clean (zOf t G) (m - zOf t G)).1 ∧ (t.clean (zOf t G) (m - zOf t G)).1.lo.length ≤ c' := by
  have h1 := clean_good h (zOf t G) (m - zOf t G)
  generalize zOf t G = z at *
  exact ⟨h1.1, by omega⟩
theorem openSt_eq (s : St) : openSt s = andThen (prep s) fun t => t.clean (zOf t (genOf s)) (toOf s.n (genOf s) - zOf t (genOf s)) := rfl
theorem open_good {N : Nat} {s : St} (G : Nat) (p : St × Nat) (h0 : Good N p.1 ∧ p.1.lo.length ≤ s.lo.length + half s.n + 1) (hh : half s.n ≤ 60) (hto : toOf s.n G ≤ 130) :
    Good N (andThen p fun t => t.clean (zOf t G) (toOf s.n G - zOf t G)).1 ∧ (andThen p fun t => t.clean (zOf t G) (toOf s.n G - zOf t G)).1.lo.length ≤ s.lo.length + 300 :=
  andThen_good (c := s.lo.length + half s.n + 1) (c' := s.lo.length + 300) h0 (fun t ht hl => tail_good ht hl hto (by omega)) (by omega)
theorem openSt_good {N : Nat} {s : St} (h : Good N s) (h120 : N ≤ 120) : Good N (openSt s).1 ∧ (openSt s).1.lo.length ≤ s.lo.length + 300 := by
  have hs : s.n ≤ 120 := by rw [h.2.2]; exact h120
  rw [openSt_eq]
  exact open_good (genOf s) (prep s) (prep_good h) (half_le hs) (toOf_small s.n (genOf s) hs)
theorem openLg_gen (s : St) : (openLg s).gen = genOf s := rfl
theorem openLg_at (s : St) : (openLg s).at_ = zOf (prep s).1 (genOf s) := rfl
theorem inv_open {N : Nat} {s : St} {c : Nat} (h : Good N s) (hlo : s.lo.length ≤ c) (h4 : 4 ≤ N) (h120 : N ≤ 120) : Inv N (openSt s).1 (openLg s) (c + 300) := by
  obtain ⟨h1, h2⟩ := openSt_good h h120
  have hg : (openLg s).gen ≤ 2147483647 := by rw [openLg_gen]; exact (genOf_le s).1
  have hz := (zOf_le (prep s).1 (genOf s)).2
  have hf := fromOf_le s.n (genOf s) (by rw [h.2.2]; exact h4)
  rw [prep_n] at hz
  have ha : (openLg s).at_ ≤ N := by rw [openLg_at]; have hn := h.2.2; omega
  exact ⟨h1, by omega, hg, ha, h4, h120⟩
end Go.Proofs.Ytbecchoidglaeaa
/- Two logs beside each other: the calls. -/
namespace Go.Proofs.Ytbecchoidglaeaa
open Go.RowKit
set_option maxRecDepth 100000

section
variable {w0 w w' : World} {D V B M N c : Nat} {g g1 g2 : Lg} {s s1 s2 : St} {O F W P : Nat → Prop}
theorem lp_pappend (h : LP w0 w D V B M g s g2 s2 O F W P) (hi : Inv N s g c) (hc : c ≤ 100000) (a : Option Addr) (len cap : Nat) (f : Nat → Nat) (hcap : len ≤ cap) (hr : Rw w0 a len f) (hf : ∀ i, i < len → f i < 256) :
    Calls Try.prog 15 #[.pointer (some ⟨B, 0, none⟩), .slice a len cap] w fun r w' => r = .returned (.int .i64 ((g.append s f len).2 : Int)) ∧ ∃ F', LP w0 w' D V B M (g.append s f len).1.2 (g.append s f len).1.1 g2 s2 O F' W P ∧ ∀ b, O b → w'.heap[b]? = w.heap[b]? := by
  have hn := hi.good.2.2
  refine (pappend_any h.plog (by rw [hn]; exact hi.n4) (by rw [hn]; have := hi.n120; omega) (by have := hi.lo; omega) hi.gen a len cap f hcap (hr.below h.bel) hf (fun x hx h0 hF => by have := h.q.hF _ hF; have := hr.lt x hx h0; omega)).mono ?_
  rintro r w' ⟨h1, F', h2, h3⟩
  exact ⟨h1, F', h.stepP h2 h3, fun b hb => h.blockP h3 hb⟩
theorem lp_rappend (h : LP w0 w D V B M g1 s1 g s O F W P) (hi : Inv N s g c) (hc : c ≤ 100000) (a : Option Addr) (len cap : Nat) (f : Nat → Nat) (hcap : len ≤ cap) (hr : Rw w0 a len f) (hf : ∀ i, i < len → f i < 256) :
    Calls Try.prog 16 #[.pointer (some ⟨M, 0, none⟩), .slice a len cap] w fun r w' => r = .returned (.int .i64 ((g.append s f len).2 : Int)) ∧ ∃ W' P', LP w0 w' D V B M g1 s1 (g.append s f len).1.2 (g.append s f len).1.1 O F W' P' ∧ ∀ b, O b → w'.heap[b]? = w.heap[b]? := by
  have hn := hi.good.2.2
  refine (rappend_any h.rlog (by rw [hn]; exact hi.n4) (by rw [hn]; have := hi.n120; omega) (by have := hi.lo; omega) hi.gen (by rw [hn]; exact hi.at_) a len cap f hcap (hr.below h.bel) hf).mono ?_
  rintro r w' ⟨h1, W', P', h2, h3⟩
  exact ⟨h1, W', P', h.stepR h2 h3, fun b hb => h.blockR h3 hb⟩
theorem lp_pcheck (h : LP w0 w D V B M g s g2 s2 O F W P) (hi : Inv N s g c) (hc : c ≤ 100000) (a : Option Addr) (len cap : Nat) (f : Nat → Nat) (hcap : len ≤ cap) (hr : Rw w0 a len f) (hf : ∀ i, i < len → f i < 256) :
    Calls Try.prog 17 #[.pointer (some ⟨B, 0, none⟩), .slice a len cap] w fun r w' => r = .returned (.int .i64 ((g.check s f len).2 : Int)) ∧ ∃ F', LP w0 w' D V B M (g.check s f len).1.2 (g.check s f len).1.1 g2 s2 O F' W P ∧ ∀ b, O b → w'.heap[b]? = w.heap[b]? := by
  have hn := hi.good.2.2
  refine (pcheck_any h.plog (by rw [hn]; exact hi.n4) (by rw [hn]; have := hi.n120; omega) (by have := hi.lo; omega) a len cap f hcap (hr.below h.bel) hf (fun x hx h0 hF => by have := h.q.hF _ hF; have := hr.lt x hx h0; omega)).mono ?_
  rintro r w' ⟨h1, F', h2, h3⟩
  exact ⟨h1, F', h.stepP h2 h3, fun b hb => h.blockP h3 hb⟩
theorem lp_rcheck (h : LP w0 w D V B M g1 s1 g s O F W P) (hi : Inv N s g c) (hc : c ≤ 100000) (a : Option Addr) (len cap : Nat) (f : Nat → Nat) (hcap : len ≤ cap) (hr : Rw w0 a len f) (hf : ∀ i, i < len → f i < 256) :
    Calls Try.prog 18 #[.pointer (some ⟨M, 0, none⟩), .slice a len cap] w fun r w' => r = .returned (.int .i64 ((g.check s f len).2 : Int)) ∧ ∃ W' P', LP w0 w' D V B M g1 s1 (g.check s f len).1.2 (g.check s f len).1.1 O F W' P' ∧ ∀ b, O b → w'.heap[b]? = w.heap[b]? := by
  have hn := hi.good.2.2
  refine (rcheck_any h.rlog hi.good.1 (by rw [hn]; exact hi.n4) (by rw [hn]; have := hi.n120; omega) (by have := hi.lo; omega) hi.gen a len cap f hcap (hr.below h.bel) hf (fun x hx h0 hW => by have := h.q.hW _ hW; have := hr.lt x hx h0; omega)).mono ?_
  rintro r w' ⟨h1, W', P', h2, h3⟩
  exact ⟨h1, W', P', h.stepR h2 h3, fun b hb => h.blockR h3 hb⟩
theorem open_okB (h : Disk w D s F) (hg : Good N s) (hn : 4 ≤ N) (hs : N ≤ 1024) (hlo : s.lo.length < 600000) (h0 : (openSt s).2 = 0) :
    Calls Try.prog 12 #[.pointer (some ⟨D, 0, none⟩)] w fun r w' => ∃ B v, r = .returned (.tuple #[.pointer (some ⟨B, 0, none⟩), v, .int .i64 0]) ∧ ∃ F' B0, PLog w' B D (openLg s) (openSt s).1 F' ∧ Step F F' w w' ∧ w.heap.size ≤ B ∧ w.heap.size ≤ B0 ∧ ORowsIn w' B0 v s := by
  have hsn := hg.2.2
  refine (open_in h hg.2.1 (by omega) (by omega) hlo).mono ?_
  rintro r w' ⟨F', h1, h2, ⟨_, B, v, rfl, h3, h4, h5, B0, h6, h7⟩ | ⟨h3, _⟩⟩
  · exact ⟨B, v, rfl, F', B0, ⟨h3, h1, h5⟩, h2, h4, h6, h7⟩
  · omega
theorem open_no (h : Disk w D s F) (hg : Good N s) (hn : 4 ≤ N) (hs : N ≤ 1024) (hlo : s.lo.length < 600000) (h0 : (openSt s).2 = 4) :
    Calls Try.prog 12 #[.pointer (some ⟨D, 0, none⟩)] w fun r w' => r = .returned (.tuple #[.pointer none, .slice none 0 0, .int .i64 4]) ∧ ∃ F', Disk w' D (openSt s).1 F' ∧ Step F F' w w' := by
  have hsn := hg.2.2
  refine (open_in h hg.2.1 (by omega) (by omega) hlo).mono ?_
  rintro r w' ⟨F', h1, h2, ⟨h3, _⟩ | ⟨_, rfl⟩⟩
  · omega
  · exact ⟨rfl, F', h1, h2⟩
theorem ropen_ok (h : RDisk w V s W P) (hg : Good N s) (hn : 4 ≤ N) (hs : N ≤ 120) (hlo : s.lo.length < 600000) (h0 : (openSt s).2 = 0) :
    Calls Try.prog 13 #[.pointer (some ⟨V, 0, none⟩)] w fun r w' => ∃ M v, r = .returned (.tuple #[.pointer (some ⟨M, 0, none⟩), v, .int .i64 0]) ∧ ∃ W' P', RLog w' M V (openLg s) (openSt s).1 W' P' ∧ RStep W P W' P' w w' ∧ w.heap.size ≤ M ∧ ORows w' v s := by
  have hsn := hg.2.2
  refine (ropen_in h hg.1 hg.2.1 (by omega) (by omega) hlo).mono ?_
  rintro r w' ⟨W', P', h1, h2, ⟨_, M, v, rfl, h3, h4, h5, h6, h7⟩ | ⟨h3, _⟩⟩
  · exact ⟨M, v, rfl, W', P', ⟨h3, h1, h5, h6⟩, h2, h4, h7⟩
  · omega
theorem ropen_no (h : RDisk w V s W P) (hg : Good N s) (hn : 4 ≤ N) (hs : N ≤ 120) (hlo : s.lo.length < 600000) (h0 : (openSt s).2 = 4) :
    Calls Try.prog 13 #[.pointer (some ⟨V, 0, none⟩)] w fun r w' => r = .returned (.tuple #[.pointer none, .slice none 0 0, .int .i64 4]) ∧ ∃ W' P', RDisk w' V (openSt s).1 W' P' ∧ RStep W P W' P' w w' := by
  have hsn := hg.2.2
  refine (ropen_in h hg.1 hg.2.1 (by omega) (by omega) hlo).mono ?_
  rintro r w' ⟨W', P', h1, h2, ⟨h3, _⟩ | ⟨_, rfl⟩⟩
  · omega
  · exact ⟨rfl, W', P', h1, h2⟩
theorem openSt_cases (s : St) : (openSt s).2 = 0 ∨ (openSt s).2 = 4 := by
  have hp : (prep s).2 = 0 ∨ (prep s).2 = 4 := by
    by_cases e : genAt s = 0
    · rw [prep_begin e]; exact begin_cases s
    · have : prep s = (s, 0) := by unfold prep; rw [if_neg e]
      rw [this]; exact .inl rfl
  rw [openSt_eq]
  rcases hp with h | h
  · rw [andThen_ok h]; exact clean_cases _ _ _
  · rw [andThen_no (by rw [h]; decide)]; exact .inr h
theorem ORowsIn.keeps {B0 : Nat} {v : Value} (h : ORowsIn w B0 v s) {G : Nat → Prop} (hk : Keeps G w w') (hG : ∀ b, G b → b < B0) : ORowsIn w' B0 v s := RowsIn.keeps h hk hG
/-- Both logs, when first opened. -/
theorem lp_of {w1 w2 : World} {F1 W2 P2 : Nat → Prop} (hp : Pair w D V s s F W P (fun _ => False) w0.heap.size) (hbel : Below w0.heap.size w0 w) (h1 : PLog w1 B D g1 s1 F1) (st1 : Step F F1 w w1) (hB : w.heap.size ≤ B) (h2 : RLog w2 M V g2 s2 W2 P2) (st2 : RStep W P W2 P2 w1 w2) (hM : w1.heap.size ≤ M) :
    LP w0 w2 D V B M g1 s1 g2 s2 (fun _ => False) F1 W2 P2 := by
  have q1 := hp.stepD h1.d st1
  have q2 := q1.stepR h2.r st2
  have hWB : ¬ W B := fun hw => by have := hp.r.lt B (.inl hw); omega
  have hPB : ¬ P B := fun hw => by have := hp.r.lt B (.inr hw); omega
  have hBl := h1.l.lt
  refine ⟨q2.others (fun b hb => ?_), h1.l.keeps st2.1 hWB, h2.l, by omega, by have := hp.le; omega, by have := q1.le; omega, fun _ h => h.elim, (hbel.trans (hp.belowD st1)).trans (q1.belowR st2)⟩
  rcases hb with hb | hb | hb
  · subst hb
    refine .inr ⟨Nat.lt_of_lt_of_le hBl st2.1.size, h1.nf, fun hw => ?_, fun hw => ?_⟩
    · rcases st2.2.1 b hw with h | h
      · exact hWB h
      · omega
    · rcases st2.2.2 b hw with h | h
      · exact hPB h
      · omega
  · subst hb
    exact .inr ⟨h2.l.lt, fun hf => by have := h1.d.lt b hf; omega, h2.nw, h2.np⟩
  · exact hb.elim
/-- Beside one list of rows another one of the same log's. -/
theorem rows_nil (w : World) : RowsRd w (.slice none 0 0) 0 (fun _ => 0) (fun _ _ => 0) := ⟨none, 0, rfl, by omega, fun h => absurd h (by omega)⟩
end
end Go.Proofs.Ytbecchoidglaeaa
