/- 'x, y := f(..), g(..)' in a region that draws its order: the boxes of the two answers are made at any time. Nothing of the program is named here. -/
import Derived.Test.YtmpnnfbpknfekaaOrd
import Derived.Test.YtmpnnfbpknfekaaTpT
import Derived.Deep.MidRow
namespace Go.Proofs.Ytmpnnfbpknfekaa
open Go.RowKit
set_option maxRecDepth 100000

/-- What stands while the boxes A and N are made or not. -/
structure Duo (Ls : List Nat) (b : Act) (w0 : World) (dA dN : Nat) (z : Array Value) (t : TypeId) (A N : Option Nat) (a : Act) (W : World) : Prop where
  fr : Fr Ls b a
  over : Below w0.heap.size w0 W
  boxA : ∀ g, A = some g → a.tmps[dA]? = some (.pointer (some ⟨g, 0, none⟩)) ∧ w0.heap.size ≤ g ∧ W.heap[g]? = some (.cells z t (0, 0))
  boxN : ∀ g, N = some g → a.tmps[dN]? = some (.pointer (some ⟨g, 0, none⟩)) ∧ w0.heap.size ≤ g ∧ W.heap[g]? = some (.cells z t (0, 0))
  ne : ∀ g h, A = some g → N = some h → g ≠ h
section
variable {Ls : List Nat} {b a : Act} {w0 W W' : World} {dA dN : Nat} {z : Array Value} {t : TypeId} {A N : Option Nat}
theorem Duo.put (h : Duo Ls b w0 dA dN z t A N a W) {s : Nat} (hs : s ∈ Ls) (hA : s ≠ dA) (hN : s ≠ dN) (v : Value) : Duo Ls b w0 dA dN z t A N (a.put (some s) v) W :=
  ⟨h.fr.put hs v, h.over, fun g e => by rw [slot_put v hA]; exact h.boxA g e, fun g e => by rw [slot_put v hN]; exact h.boxN g e, h.ne⟩
theorem Duo.later (h : Duo Ls b w0 dA dN z t A N a W) (hb : Below W.heap.size W W') : Duo Ls b w0 dA dN z t A N a W' :=
  ⟨h.fr, h.over.trans (hb.mono h.over.size), fun g e => ⟨(h.boxA g e).1, (h.boxA g e).2.1, by rw [hb.block g (Array.getElem?_eq_some_iff.1 (h.boxA g e).2.2).1]; exact (h.boxA g e).2.2⟩,
    fun g e => ⟨(h.boxN g e).1, (h.boxN g e).2.1, by rw [hb.block g (Array.getElem?_eq_some_iff.1 (h.boxN g e).2.2).1]; exact (h.boxN g e).2.2⟩, h.ne⟩
theorem Duo.makeA (h : Duo Ls b w0 dA dN z t none N a W) (hA : dA ∈ Ls) (hne : dA ≠ dN) (hsz : dA < b.tmps.size) : Duo Ls b w0 dA dN z t (some W.heap.size) N (a.put (some dA) (.pointer (some ⟨W.heap.size, 0, none⟩))) (W.alloc (.cells z t)) := by
  have h1 := h.later ((Below.refl _ W).alloc (Nat.le_refl _) (.cells z t))
  refine ⟨h.fr.put hA _, h1.over, fun g e => ?_, fun g e => by rw [slot_put _ hne]; exact h1.boxN g e, fun g k e f => ?_⟩
  · obtain rfl : W.heap.size = g := by simpa using e
    exact ⟨slot_same _ (by rw [h.fr.size]; exact hsz), h.over.size, heap_alloc_new _ _⟩
  · obtain rfl : W.heap.size = g := by simpa using e
    have := (Array.getElem?_eq_some_iff.1 (h.boxN k f).2.2).1
    omega
theorem Duo.makeN (h : Duo Ls b w0 dA dN z t A none a W) (hN : dN ∈ Ls) (hne : dN ≠ dA) (hsz : dN < b.tmps.size) : Duo Ls b w0 dA dN z t A (some W.heap.size) (a.put (some dN) (.pointer (some ⟨W.heap.size, 0, none⟩))) (W.alloc (.cells z t)) := by
  have h1 := h.later ((Below.refl _ W).alloc (Nat.le_refl _) (.cells z t))
  refine ⟨h.fr.put hN _, h1.over, fun g e => by rw [slot_put _ hne]; exact h1.boxA g e, fun g e => ?_, fun g k e f => ?_⟩
  · obtain rfl : W.heap.size = g := by simpa using e
    exact ⟨slot_same _ (by rw [h.fr.size]; exact hsz), h.over.size, heap_alloc_new _ _⟩
  · obtain rfl : W.heap.size = k := by simpa using f
    have := (Array.getElem?_eq_some_iff.1 (h.boxA g e).2.2).1
    omega
end
theorem duo_there {w : World} {g : Nat} {c : Array Value} {t : TypeId} (h : w.heap[g]? = some (.cells c t (0, 0))) (n : Nat) (hn : n ≤ c.size) : w.there g 0 n := fun j hj => by
  refine ⟨?_, ?_⟩
  · simp only [World.cell?, h, Nat.zero_add]
    rw [Array.getElem?_eq_getElem (by omega)]
    rfl
  · simp [World.frozen?, h]
/-- The chain's states. -/
def JD (Ls : List Nat) (b : Act) (w0 : World) (dA dN s1 s2 : Nat) (z : Array Value) (t : TypeId) (V1 V2 : Array Value → Prop) (k : Nat) (A N : Option Nat) (a : Act) (W : World) : Prop :=
  Duo Ls b w0 dA dN z t A N a W ∧ (1 ≤ k → ∃ C, V1 C ∧ a.tmps[s1]? = some (.agg C)) ∧ (2 ≤ k → ∃ C, V2 C ∧ a.tmps[s2]? = some (.agg C))
def chainD (i1 i2 : Nat) : Nat → Nat
  | 0 => i1
  | _ => i2
section
variable {P : Program} {ops : Array Oper} {Q : Exit → Act → World → Prop}
theorem duo_region (Ls : List Nat) (b : Act) (w0 W0 : World) (dA dN s1 s2 i1 i2 iA iN iS iT m : Nat) (t : TypeId) (z : Array Value) (V1 V2 : Array Value → Prop) (L : Nat → Bool → Bool → Array Bool) {o1 o2 oA oN : Oper}
    (x1 : ops[i1]? = some o1) (g1 : o1.guard = none) (x2 : ops[i2]? = some o2) (g2 : o2.guard = none)
    (c1 : ∀ a X (K : Act → World → Prop), Fr Ls b a → Below w0.heap.size w0 X → (∀ C w', V1 C → Below X.heap.size X w' → K (a.put (some s1) (.agg C)) w') → o1.wp P a X K Q)
    (c2 : ∀ a X (K : Act → World → Prop), Fr Ls b a → Below w0.heap.size w0 X → (∀ C w', V2 C → Below X.heap.size X w' → K (a.put (some s2) (.agg C)) w') → o2.wp P a X K Q)
    (v1 : ∀ C, V1 C → C.size = m ∧ C.all (·.oneCell') = true) (v2 : ∀ C, V2 C → C.size = m ∧ C.all (·.oneCell') = true)
    (hz : z.size = m) (inf : (P.info? t).map (·.size) = some m)
    (xA : ops[iA]? = some oA) (gA : oA.guard = none) (eA : oA.dst = some dA) (rA : ∀ (a : Act) (X : World), (execOp a.eval oA).run P X = .ok (.value (.pointer (some ⟨X.heap.size, 0, none⟩))) (X.alloc (.cells z t)))
    (xN : ops[iN]? = some oN) (gN : oN.guard = none) (eN : oN.dst = some dN) (rN : ∀ (a : Act) (X : World), (execOp a.eval oN).run P X = .ok (.value (.pointer (some ⟨X.heap.size, 0, none⟩))) (X.alloc (.cells z t)))
    (oS : ∃ ty po af, ops[iS]? = some { dst := none, op := .store t (.tmp dA) (.tmp s1), type := ty, pos := po, after := af, guard := none })
    (oT : ∃ ty po af, ops[iT]? = some { dst := none, op := .store t (.tmp dN) (.tmp s2), type := ty, pos := po, after := af, guard := none })
    (hA : ∀ k N, k ≤ 2 → (L k false N).setIfInBounds iA true = L k true N) (hN : ∀ k A, k ≤ 2 → (L k A false).setIfInBounds iN true = L k A true)
    (hr : ∀ k A N, k < 2 → Region.ready .any ops (L k A N) = chainD i1 i2 k :: mayMake iA iN A N) (hrn : ∀ A N, (A && N) = false → Region.ready .any ops (L 2 A N) = mayMake iA iN A N)
    (hl0 : ∀ A N, (L 0 A N).setIfInBounds i1 true = L 1 A N) (hl1 : ∀ A N, (L 1 A N).setIfInBounds i2 true = L 2 A N)
    (hrS : Region.ready .any ops (L 2 true true) = [iS]) (hrT : Region.ready .any ops ((L 2 true true).setIfInBounds iS true) = [iT]) (hrE : Region.ready .any ops (((L 2 true true).setIfInBounds iS true).setIfInBounds iT true) = [])
    (hLs : Ls = [dA, dN, s1, s2]) (hnd : Ls.Nodup) (hsz : ∀ s ∈ Ls, s < b.tmps.size)
    (fin : ∀ gA gN C1 C2 W a, Fr Ls b a → a.tmps[dA]? = some (.pointer (some ⟨gA, 0, none⟩)) → a.tmps[dN]? = some (.pointer (some ⟨gN, 0, none⟩)) → a.tmps[s1]? = some (.agg C1) → a.tmps[s2]? = some (.agg C2) → V1 C1 → V2 C2 → gA ≠ gN → Below w0.heap.size w0 W → w0.heap.size ≤ gA → w0.heap.size ≤ gN → gA < W.heap.size → gN < W.heap.size → W.rangeAt gA 0 C1.toList → W.rangeAt gN 0 C2.toList → Q .normal a W)
    (hW0 : Below w0.heap.size w0 W0) :
    wpAnyH P .any ops Q (fun W => Below w0.heap.size w0 W) 6 (L 0 false false) b W0 := by
  subst hLs
  have mem : ∀ {s : Nat}, s ∈ [dA, dN, s1, s2] → s < b.tmps.size := fun h => hsz _ h
  simp only [List.nodup_cons, List.mem_cons, List.not_mem_nil, or_false, not_or] at hnd
  obtain ⟨⟨a1, a2, a3⟩, ⟨b2, b3⟩, c3, _⟩ := hnd
  have run_ok : ∀ {o : Oper} {v : Value} {a : Act} {w w' : World} {K : Act → World → Prop}, (execOp a.eval o).run P w = .ok (.value v) w' → K (a.put o.dst v) w' → Oper.wp P o a w K Q := fun hr h => by
    unfold Oper.wp
    rw [hr]
    exact h
  have key := float2 (P := P) (ops := ops) (Q := Q) (S := fun W => Below w0.heap.size w0 W) 2 iA iN (chainD i1 i2) (fun k => 4 - k) L (JD [dA, dN, s1, s2] b w0 dA dN s1 s2 z t V1 V2)
    (fun k A N a w h => h.1.over) hA hN hr hrn
    (fun k N a w hk h => by
      refine op_plain xA gA (run_ok (rA a w) ⟨w.heap.size, ?_⟩)
      rw [eA]
      refine ⟨h.1.makeA (by simp) a1 (mem (by simp)), fun hk => ?_, fun hk => ?_⟩
      · obtain ⟨C, hc, hs⟩ := h.2.1 hk
        exact ⟨C, hc, by rw [slot_put _ a2]; exact hs⟩
      · obtain ⟨C, hc, hs⟩ := h.2.2 hk
        exact ⟨C, hc, by rw [slot_put _ a3]; exact hs⟩)
    (fun k A a w hk h => by
      refine op_plain xN gN (run_ok (rN a w) ⟨w.heap.size, ?_⟩)
      rw [eN]
      refine ⟨h.1.makeN (by simp) (Ne.symm a1) (mem (by simp)), fun hk => ?_, fun hk => ?_⟩
      · obtain ⟨C, hc, hs⟩ := h.2.1 hk
        exact ⟨C, hc, by rw [slot_put _ b2]; exact hs⟩
      · obtain ⟨C, hc, hs⟩ := h.2.2 hk
        exact ⟨C, hc, by rw [slot_put _ b3]; exact hs⟩)
    ?_ (fun k hk => by omega) ?_
  · exact key 2 0 none none b W0 rfl ⟨⟨Fr.refl _ _, hW0, fun _ e => by (cases e), fun _ e => by (cases e), fun _ _ e => by (cases e)⟩, fun h => by omega, fun h => by omega⟩
  · -- the chain
    intro k A N a w hk h go
    match k, hk, h, go with
    | 0, _, h, go =>
      refine op_plain x1 g1 (c1 a w _ h.1.fr h.1.over fun C w' hc hb => ?_)
      have h1 := (h.1.later hb).put (s := s1) (by simp) (Ne.symm a2) (Ne.symm b2) (.agg C)
      have := go _ _ ⟨h1, fun _ => ⟨C, hc, slot_same _ (by rw [h.1.fr.size]; exact mem (by simp))⟩, fun h => by omega⟩
      rw [← hl0] at this
      have ef : (4 - 0) + toMake A N - 1 = (4 - (0 + 1)) + toMake A N := by omega
      rw [ef]
      exact ⟨h1.over, this⟩
    | 1, _, h, go =>
      refine op_plain x2 g2 (c2 a w _ h.1.fr h.1.over fun C w' hc hb => ?_)
      have h1 := (h.1.later hb).put (s := s2) (by simp) (Ne.symm a3) (Ne.symm b3) (.agg C)
      obtain ⟨C1, hc1, hs1⟩ := h.2.1 (by omega)
      have := go _ _ ⟨h1, fun _ => ⟨C1, hc1, by rw [slot_put _ (Ne.symm c3)]; exact hs1⟩, fun _ => ⟨C, hc, slot_same _ (by rw [h.1.fr.size]; exact mem (by simp))⟩⟩
      rw [← hl1] at this
      have ef : (4 - 1) + toMake A N - 1 = (4 - (1 + 1)) + toMake A N := by omega
      rw [ef]
      exact ⟨h1.over, this⟩
  · -- the stores
    intro gA gN a w h
    obtain ⟨hT, h1, h2⟩ := h
    obtain ⟨C1, hc1, e1⟩ := h1 (by omega)
    obtain ⟨C2, hc2, e2⟩ := h2 (by omega)
    obtain ⟨tyS, poS, afS, hoS⟩ := oS
    obtain ⟨tyT, poT, afT, hoT⟩ := oT
    obtain ⟨pA, lA, bA⟩ := hT.boxA gA rfl
    obtain ⟨pN, lN, bN⟩ := hT.boxN gN rfl
    have hne := hT.ne gA gN rfl rfl
    have kA : Keeps (fun k => k = gA ∨ k = gN) w (w.setCells gA 0 C1.toList) := (Keeps.refl _ w).setCells gA 0 _ (.inl (.inl rfl))
    have kN : Keeps (fun k => k = gA ∨ k = gN) w ((w.setCells gA 0 C1.toList).setCells gN 0 C2.toList) := kA.setCells gN 0 _ (.inl (.inr rfl))
    have oA : Below w0.heap.size w0 (w.setCells gA 0 C1.toList) := hT.over.trans (kA.below _ hT.over.size (fun k e => by rcases e with rfl | rfl <;> assumption))
    have oN : Below w0.heap.size w0 ((w.setCells gA 0 C1.toList).setCells gN 0 C2.toList) := hT.over.trans (kN.below _ hT.over.size (fun k e => by rcases e with rfl | rfl <;> assumption))
    have thA : w.there gA 0 C1.size := duo_there bA _ (by rw [(v1 C1 hc1).1, hz]; exact Nat.le_refl _)
    have thN : (w.setCells gA 0 C1.toList).there gN 0 C2.size := World.there_setCells (duo_there bN _ (by rw [(v2 C2 hc2).1, hz]; exact Nat.le_refl _)) _ _ _
    have infA : (P.info? t).map (·.size) = some C1.size := by rw [(v1 C1 hc1).1]; exact inf
    have infN : (P.info? t).map (·.size) = some C2.size := by rw [(v2 C2 hc2).1]; exact inf
    have r2 : (4 - 2) = 0 + 1 + 1 := rfl
    show wpAnyH P .any ops Q _ (4 - 2) _ _ _
    rw [r2]
    refine wpAnyH_all hrS (by simp) fun i hi => ?_
    obtain rfl : i = iS := by simpa using hi
    refine op_plain hoS rfl ?_
    unfold Oper.wp execOp
    simp only [slot_eval pA, slot_eval e1, Sem.run_bind, run_storeAt_mid w gA 0 t C1 thA infA (v1 C1 hc1).2, Result.andThen_ok, Sem.run_pure]
    refine ⟨oA, ?_⟩
    refine wpAnyH_all hrT (by simp) fun i hi => ?_
    obtain rfl : i = iT := by simpa using hi
    refine op_plain hoT rfl ?_
    unfold Oper.wp execOp
    have f1 : (a.put none undef).eval (.tmp dN) = .pointer (some ⟨gN, 0, none⟩) := slot_eval pN
    have f2 : (a.put none undef).eval (.tmp s2) = .agg C2 := slot_eval e2
    simp only [f1, f2, Sem.run_bind, run_storeAt_mid (w.setCells gA 0 C1.toList) gN 0 t C2 thN infN (v2 C2 hc2).2, Result.andThen_ok, Sem.run_pure]
    refine ⟨oN, ?_⟩
    refine wpAnyH_done hrE ?_ _
    have za := (Array.getElem?_eq_some_iff.1 bA).1
    have zn := (Array.getElem?_eq_some_iff.1 bN).1
    have hs := kN.size
    refine fin gA gN C1 C2 _ _ hT.fr pA pN e1 e2 hc1 hc2 hne oN lA lN (by omega) (by omega) ?_ ?_
    · exact World.rangeAt_setCells_apart (World.rangeAt_setCells_same w gA 0 C1.toList (by simpa using thA)) gN 0 C2.toList (.inl hne)
    · exact World.rangeAt_setCells_same _ gN 0 C2.toList (by simpa using thN)
end
end Go.Proofs.Ytmpnnfbpknfekaa
