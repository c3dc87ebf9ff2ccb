/- What is read stays so while a table's map is turned; three rows that grow beside each other; an act's box. -/
import Derived.Test.YtjlmkaeepeamkaaAjP
import Derived.Test.YtjlmkaeepeamkaaHRf
namespace Go.Proofs.Ytjlmkaeepeamkaa
open Go.RowKit
set_option maxRecDepth 100000

/-- All that is read in w is read in w'. -/
def Sees (w w' : World) : Prop := ∀ p v, w.cell? p = some v → w'.cell? p = some v
theorem IRd.sees {w w' : World} {a : Option Addr} {zs : List Int} (h : IRd w a zs) (hs : Sees w w') : IRd w' a zs := fun hp => by
  obtain ⟨b, off, e, hc⟩ := h hp
  exact ⟨b, off, e, fun j z hj => hs _ _ (hc j z hj)⟩
theorem PthRd.sees {w w' : World} {a : Option Addr} {ss : List (Bool × List Int)} (h : PthRd w a ss) (hs : Sees w w') : PthRd w' a ss := by
  refine ⟨fun hp => ?_, h.small, h.smalls⟩
  obtain ⟨b, off, e, hc⟩ := h.cells hp
  refine ⟨b, off, e, fun i s hi => ?_⟩
  obtain ⟨h1, a', c', h2, h3⟩ := hc i s hi
  exact ⟨hs _ _ h1, a', c', hs _ _ h2, h3.sees hs⟩
theorem CRd.sees {w w' : World} {a : Option Addr} {cs : List Nat} (h : CRd w a cs) (hs : Sees w w') : CRd w' a cs := fun hp => by
  obtain ⟨b, off, e, hc⟩ := h hp
  exact ⟨b, off, e, fun j z hj => hs _ _ (hc j z hj)⟩
theorem BRd.sees {w w' : World} {a : Option Addr} {bs : List Nat} (h : BRd w a bs) (hs : Sees w w') : BRd w' a bs := by
  refine ⟨⟨h.1.1, fun hp => ?_⟩, h.2⟩
  obtain ⟨b, off, e, hc⟩ := h.1.2 hp
  exact ⟨b, off, e, fun i hi => hs _ _ (hc i hi)⟩
theorem RawRd.sees {w w' : World} {a : Option Addr} {rs : List (Int × Int × List Nat)} (h : RawRd w a rs) (hs : Sees w w') : RawRd w' a rs := fun hp => by
  obtain ⟨b, off, e, hc⟩ := h hp
  refine ⟨b, off, e, fun i r hi => ?_⟩
  obtain ⟨h1, h2, a', c', h3, h4, h5⟩ := hc i r hi
  exact ⟨hs _ _ h1, hs _ _ h2, a', c', hs _ _ h3, h4, h5.sees hs⟩
theorem AtRd.sees {w w' : World} {pa ca ra : Option Addr} {a : At} (h : AtRd w pa ca ra a) (hs : Sees w w') : AtRd w' pa ca ra a := ⟨h.path.sees hs, h.comms.sees hs, h.raws.sees hs, h.next⟩
theorem RtAt.sees {w w' : World} {g o : Nat} {r : Rt} {pa : Option Addr} {pc : Nat} {ca : Option Addr} {cc : Nat} {ra : Option Addr} {rc : Nat} (h : RtAt w g o r pa pc ca cc ra rc) (hs : Sees w w') : RtAt w' g o r pa pc ca cc ra rc :=
  ⟨fun j v hv => hs _ _ (h.1 j v hv), h.2.sees hs⟩
theorem RtsRd.sees {w w' : World} {a : Option Addr} {l : List Rt} (h : RtsRd w a l) (hs : Sees w w') : RtsRd w' a l := fun hp => by
  obtain ⟨b, off, e, hc⟩ := h hp
  refine ⟨b, off, e, fun i r hi => ?_⟩
  obtain ⟨pa, pc, ca, cc, ra, rc, h1⟩ := hc i r hi
  exact ⟨pa, pc, ca, cc, ra, rc, h1.sees hs⟩
theorem AkAt.sees {w w' : World} {g o : Nat} {k : Ak} {pa : Option Addr} {pc : Nat} {ca : Option Addr} {cc : Nat} {ra : Option Addr} {rc : Nat} (h : AkAt w g o k pa pc ca cc ra rc) (hs : Sees w w') : AkAt w' g o k pa pc ca cc ra rc :=
  ⟨fun j v hv => hs _ _ (h.1 j v hv), h.2.sees hs⟩
/-! Rows that grow beside each other. -/
theorem row_keeps {F : Nat → Prop} {w w' : World} {B e size n : Nat} {v : Value} {xs : List Value} (h : w.ownsRow B e size v n xs) (hk : Keeps F w w') (hF : ∀ g, v.ownBlock = some g → ¬ F g) : w'.ownsRow B e size v n xs := by
  refine ⟨h.1, ?_⟩
  rcases h.2 with hh | ⟨g, cap, cur, e1, hg, hc, rest⟩
  · exact .inl hh
  · exact .inr ⟨g, cap, cur, e1, hg, by rw [hk.block g (Array.getElem?_eq_some_iff.1 hc).1 (hF g (by rw [e1]; rfl))]; exact hc, rest⟩
theorem OwnRts.keeps {F : Nat → Prop} {w0 w w' : World} {B : Nat} {v : Value} {l : List Rt} (h : OwnRts w0 B w v l) (hk : Keeps F w w') (hF : ∀ g, v.ownBlock = some g → ¬ F g) : OwnRts w0 B w' v l := by
  obtain ⟨cs, ho, hc⟩ := h
  exact ⟨cs, row_keeps ho hk hF, hc⟩
theorem OwnRts.blocks {w0 w : World} {B : Nat} {v : Value} {l : List Rt} (h : OwnRts w0 B w v l) : ∀ g, v.ownBlock = some g → B ≤ g ∧ g < w.heap.size ∧ ∀ C t z, w.heap[g]? = some (.cells C t z) → t = 36 := fun g hg => by
  obtain ⟨cs, ho, hc⟩ := h
  refine ⟨(own_block ho g hg).1, (own_block ho g hg).2, fun C t z hC => ?_⟩
  rcases ho.2 with ⟨e1, _⟩ | ⟨g', cap, cur, e1, _, hcur, _⟩
  · rw [e1] at hg; simp [Value.ownBlock] at hg
  · rw [e1] at hg
    simp [Value.ownBlock] at hg
    subst hg
    rw [hC] at hcur
    injection hcur with hcur
    injection hcur
theorem OwnPx.blocks {w : World} {B : Nat} {v : Value} {l : List (Nat × Int)} (h : OwnPx w B v l) : ∀ g, v.ownBlock = some g → B ≤ g ∧ g < w.heap.size ∧ ∀ C t z, w.heap[g]? = some (.cells C t z) → t = 29 := fun g hg => by
  unfold OwnPx at h
  refine ⟨(own_block h g hg).1, (own_block h g hg).2, fun C t z hC => ?_⟩
  rcases h.2 with ⟨e1, _⟩ | ⟨g', cap, cur, e1, _, hcur, _⟩
  · rw [e1] at hg; simp [Value.ownBlock] at hg
  · rw [e1] at hg
    simp [Value.ownBlock] at hg
    subst hg
    rw [hC] at hcur
    injection hcur with hcur
    injection hcur
/-- One route more, and what stands. -/
theorem OwnRts.more {w0 w : World} {B : Nat} {v : Value} {l : List Rt} {r : Rt} {pa : Option Addr} {pc : Nat} {ca : Option Addr} {cc : Nat} {ra : Option Addr} {rc : Nat} (h : OwnRts w0 B w v l) (hB : B ≤ w.heap.size) (hr : AtRd w0 pa ca ra r.att) (hl : l.length ≤ 500000) :
    ∃ a' c' w', (Builtin.append_ #[26, 26] 26 #[v, .slice (some ⟨w.heap.size, 0, none⟩) 1 1]).run Try.prog (w.alloc (.cells (rtC pa pc ca cc ra rc r) 36)) = .ok (.slice a' (l.length + 1) c') w' ∧ OwnRts w0 B w' (.slice a' (l.length + 1) c') (l ++ [r]) ∧ Below B w w' ∧ Keeps (fun k => v.ownBlock = some k) w w' ∧ (∀ g, (Value.slice a' (l.length + 1) c').ownBlock = some g → v.ownBlock = some g ∨ w.heap.size ≤ g) := by
  obtain ⟨cs, ho, hc⟩ := h
  obtain ⟨v', w', hrun, h2, h3, h4, h5⟩ := app_more elemRoute (w := w.alloc (.cells (rtC pa pc ca cc ra rc r) 36)) (ho.alloc _) (by simp; omega) ⟨w.heap.size, 0, none⟩ 1 1 (rtC pa pc ca cc ra rc r).toList rfl (fun j u hu => by
    rw [Addr.add_mid, Nat.zero_add, World.cell?_alloc_mark]
    simpa using hu) (fun u hu => by
    have := (RC.rt pa pc ca cc ra rc r).2
    rw [Array.all_eq_true'] at this
    exact this u (by simpa using hu)) (by omega)
  obtain ⟨a', c', rfl⟩ := own_shape h2
  refine ⟨a', c', w', hrun, ⟨_, by rw [List.length_append]; exact h2, fun i s hi => ?_⟩, ((Below.refl _ _).alloc hB _).trans h3, ((Keeps.refl _ w).alloc _).grown h4 (fun b hb => .inl hb), fun g hg => ?_⟩
  · have hcl : cs.length = l.length * 11 := ho.1
    by_cases hlt : i < l.length
    · rw [List.getElem?_append_left hlt] at hi
      obtain ⟨qa, qb, qc, qd, qe, qf, g1, g2⟩ := hc i s hi
      refine ⟨qa, qb, qc, qd, qe, qf, fun j x hx => ?_, g2⟩
      have hj : j < 11 := by have := (Array.getElem?_eq_some_iff.1 hx).1; rwa [rtC_size] at this
      rw [List.getElem?_append_left (by omega)]
      exact g1 j x hx
    · rw [List.getElem?_append_right (by omega)] at hi
      have hi0 : i - l.length = 0 := by
        have := (List.getElem?_eq_some_iff.1 hi).1
        simpa using this
      rw [hi0] at hi
      simp at hi
      subst hi
      refine ⟨pa, pc, ca, cc, ra, rc, fun j x hx => ?_, hr⟩
      rw [List.getElem?_append_right (by omega), show i * 11 + j - cs.length = j from by omega, Array.getElem?_toList]
      exact hx
  · rcases h5 with h5 | h5
    · exact .inl (by rw [← h5]; exact hg)
    · rw [h5] at hg
      simp at hg
      exact .inr (by omega)
/-- One prefix more, and what stands. -/
theorem OwnPx.more {w : World} {B : Nat} {v : Value} {l : List (Nat × Int)} {p : Nat × Int} (h : OwnPx w B v l) (hB : B ≤ w.heap.size) (hl : l.length ≤ 500000) :
    ∃ a' c' w', (Builtin.append_ #[44, 44] 44 #[v, .slice (some ⟨w.heap.size, 0, none⟩) 1 1]).run Try.prog (w.alloc (.cells #[.int .u32 (p.1 : Int), .int .i64 p.2] 29)) = .ok (.slice a' (l.length + 1) c') w' ∧ OwnPx w' B (.slice a' (l.length + 1) c') (l ++ [p]) ∧ Below B w w' ∧ Keeps (fun k => v.ownBlock = some k) w w' := by
  obtain ⟨v', w', hrun, h2, h3, h4, _⟩ := app_more elemPfx (w := w.alloc (.cells #[.int .u32 (p.1 : Int), .int .i64 p.2] 29)) (World.ownsRow.alloc h _) (by simp; omega) ⟨w.heap.size, 0, none⟩ 1 1 [.int .u32 (p.1 : Int), .int .i64 p.2] rfl (fun j u hu => by
    rw [Addr.add_mid, Nat.zero_add, World.cell?_alloc_mark]
    simpa using hu) (fun u hu => by simp at hu; rcases hu with rfl | rfl <;> rfl) (by omega)
  obtain ⟨a', c', rfl⟩ := own_shape h2
  refine ⟨a', c', w', hrun, ?_, ((Below.refl _ _).alloc hB _).trans h3, ((Keeps.refl _ w).alloc _).grown h4 (fun b hb => .inl hb)⟩
  unfold OwnPx
  rw [qcells_snoc, List.length_append]
  exact h2
/-- The law's three lists: a peer's routes, a prefix's routes, the prefixes. -/
structure Tri (w0 : World) (B : Nat) (w : World) (u v q : Value) (x y : List Rt) (z : List (Nat × Int)) : Prop where
  base : B ≤ w.heap.size
  of : OwnRts w0 B w u x
  what : OwnRts w0 B w v y
  all : OwnPx w B q z
  sep : ∀ g, u.ownBlock = some g → v.ownBlock ≠ some g
theorem Tri.later {w0 w w' : World} {B : Nat} {u v q : Value} {x y : List Rt} {z : List (Nat × Int)} (h : Tri w0 B w u v q x y z) (hb : Below w.heap.size w w') : Tri w0 B w' u v q x y z :=
  ⟨Nat.le_trans h.base hb.size, h.of.later hb, h.what.later hb, own_later h.all hb, h.sep⟩
theorem rt_px {w : World} {g : Nat} (h1 : ∀ C t z, w.heap[g]? = some (.cells C t z) → t = 36) (h2 : ∀ C t z, w.heap[g]? = some (.cells C t z) → t = 29) (h3 : ∃ C t z, w.heap[g]? = some (.cells C t z)) : False := by
  obtain ⟨C, t, z, h⟩ := h3
  have e1 := h1 C t z h
  have e2 := h2 C t z h
  rw [e1] at e2
  revert e2
  decide
theorem OwnRts.cells {w0 w : World} {B : Nat} {v : Value} {l : List Rt} (h : OwnRts w0 B w v l) : ∀ g, v.ownBlock = some g → ∃ C t z, w.heap[g]? = some (.cells C t z) := fun g hg => by
  obtain ⟨cs, ho, hc⟩ := h
  rcases ho.2 with ⟨e1, _⟩ | ⟨g', cap, cur, e1, _, hcur, _⟩
  · rw [e1] at hg; simp [Value.ownBlock] at hg
  · rw [e1] at hg
    simp [Value.ownBlock] at hg
    subst hg
    exact ⟨_, _, _, hcur⟩
theorem OwnPx.apart {w0 w : World} {B : Nat} {u v : Value} {x : List Rt} {z : List (Nat × Int)} (h : OwnRts w0 B w u x) (hp : OwnPx w B v z) : ∀ g, u.ownBlock = some g → v.ownBlock ≠ some g := fun g h1 h2 =>
  rt_px (h.blocks g h1).2.2 (hp.blocks g h2).2.2 (h.cells g h1)
theorem Tri.of_more {w0 w : World} {B : Nat} {u v q : Value} {x y : List Rt} {z : List (Nat × Int)} {r : Rt} {pa : Option Addr} {pc : Nat} {ca : Option Addr} {cc : Nat} {ra : Option Addr} {rc : Nat} (h : Tri w0 B w u v q x y z) (hr : AtRd w0 pa ca ra r.att) (hl : x.length ≤ 500000) :
    ∃ a' c' w', (Builtin.append_ #[26, 26] 26 #[u, .slice (some ⟨w.heap.size, 0, none⟩) 1 1]).run Try.prog (w.alloc (.cells (rtC pa pc ca cc ra rc r) 36)) = .ok (.slice a' (x.length + 1) c') w' ∧ Tri w0 B w' (.slice a' (x.length + 1) c') v q (x ++ [r]) y z ∧ Below B w w' := by
  obtain ⟨a', c', w', h1, h2, h3, h4, h5⟩ := h.of.more (pc := pc) (cc := cc) (rc := rc) h.base hr hl
  refine ⟨a', c', w', h1, ⟨Nat.le_trans h.base h3.size, h2, h.what.keeps h4 (fun g hg e => h.sep g e hg), row_keeps h.all h4 (fun g hg e => OwnPx.apart h.of h.all g e hg), fun g hg e => ?_⟩, h3⟩
  rcases h5 g hg with h9 | h9
  · exact h.sep g h9 e
  · have := (h.what.blocks g e).2.1; omega
theorem Tri.what_more {w0 w : World} {B : Nat} {u v q : Value} {x y : List Rt} {z : List (Nat × Int)} {r : Rt} {pa : Option Addr} {pc : Nat} {ca : Option Addr} {cc : Nat} {ra : Option Addr} {rc : Nat} (h : Tri w0 B w u v q x y z) (hr : AtRd w0 pa ca ra r.att) (hl : y.length ≤ 500000) :
    ∃ a' c' w', (Builtin.append_ #[26, 26] 26 #[v, .slice (some ⟨w.heap.size, 0, none⟩) 1 1]).run Try.prog (w.alloc (.cells (rtC pa pc ca cc ra rc r) 36)) = .ok (.slice a' (y.length + 1) c') w' ∧ Tri w0 B w' u (.slice a' (y.length + 1) c') q x (y ++ [r]) z ∧ Below B w w' := by
  obtain ⟨a', c', w', h1, h2, h3, h4, h5⟩ := h.what.more (pc := pc) (cc := cc) (rc := rc) h.base hr hl
  refine ⟨a', c', w', h1, ⟨Nat.le_trans h.base h3.size, h.of.keeps h4 (fun g hg e => h.sep g hg e), h2, row_keeps h.all h4 (fun g hg e => OwnPx.apart h.what h.all g e hg), fun g hg e => ?_⟩, h3⟩
  rcases h5 g e with h9 | h9
  · exact h.sep g hg h9
  · have := (h.of.blocks g hg).2.1; omega
theorem Tri.all_more {w0 w : World} {B : Nat} {u v q : Value} {x y : List Rt} {z : List (Nat × Int)} {p : Nat × Int} (h : Tri w0 B w u v q x y z) (hl : z.length ≤ 500000) :
    ∃ a' c' w', (Builtin.append_ #[44, 44] 44 #[q, .slice (some ⟨w.heap.size, 0, none⟩) 1 1]).run Try.prog (w.alloc (.cells #[.int .u32 (p.1 : Int), .int .i64 p.2] 29)) = .ok (.slice a' (z.length + 1) c') w' ∧ Tri w0 B w' u v (.slice a' (z.length + 1) c') x y (z ++ [p]) ∧ Below B w w' := by
  obtain ⟨a', c', w', h1, h2, h3, h4⟩ := OwnPx.more (p := p) h.all h.base hl
  exact ⟨a', c', w', h1, ⟨Nat.le_trans h.base h3.size, h.of.keeps h4 (fun g hg e => OwnPx.apart h.of h.all g hg e), h.what.keeps h4 (fun g hg e => OwnPx.apart h.what h.all g hg e), h2, h.sep⟩, h3⟩
theorem Tri.start (w : World) : Tri w w.heap.size w (.slice none 0 0) (.slice none 0 0) (.slice none 0 0) [] [] [] :=
  ⟨Nat.le_refl _, OwnRts.nil _ _ _, OwnRts.nil _ _ _, own_nil _ _ _ _, fun g hg => by simp [Value.ownBlock] at hg⟩
end Go.Proofs.Ytjlmkaeepeamkaa
