/- 'both' of the law: the same happens to the program's disk and to the document's. -/
import Derived.Test.YtbecchoidglaeaaGPair
import Derived.Test.YtbecchoidglaeaaGRDisk
import Derived.Deep.CutRange
namespace Go.Proofs.Ytbecchoidglaeaa
open Go.RowKit
set_option maxRecDepth 100000

/-- The bytes of the buffer 'in'. -/
def Buf (w : World) (g bl : Nat) : Prop := ∀ j, j < bl → (∃ z : Int, w.cell? ⟨g, j, none⟩ = some (.int .u8 z)) ∧ w.frozen? ⟨g, j, none⟩ = false
theorem Buf.of_block {w w' : World} {g bl : Nat} (h : Buf w g bl) (hb : w'.heap[g]? = w.heap[g]?) : Buf w' g bl := fun j hj => by
  obtain ⟨⟨z, hz⟩, hf⟩ := h j hj
  exact ⟨⟨z, by rw [World.cell?_of_block (w := w) (by exact hb)]; exact hz⟩, by rw [World.frozen?_of_block (w := w) (by exact hb)]; exact hf⟩
theorem Buf.set {w : World} {g bl : Nat} (h : Buf w g bl) (k : Nat) (z : Int) : Buf (w.setCell ⟨g, k, none⟩ (.int .u8 z)) g bl := fun j hj => by
  obtain ⟨⟨y, hy⟩, hf⟩ := h j hj
  refine ⟨?_, by rw [World.frozen?_setCell]; exact hf⟩
  by_cases e : j = k
  · subst e
    exact ⟨z, World.cell?_setCell_same _ _ _ hy⟩
  · exact ⟨y, by rw [World.cell?_setCell_other _ _ _ _ (by intro h; injection h with _ h _; exact e h.symm)]; exact hy⟩
/-- What holds of both disks when i of the acts were played. -/
def BothAt (N : Nat) (w wq : World) (D V i : Nat) : Prop :=
  ∃ s F W P, Pair wq D V s s F W P (fun _ => False) w.heap.size ∧ Good N s ∧ s.lo.length ≤ i ∧ Below w.heap.size w wq
/-- The same within a round, with the two blocks of the round. -/
def MidAt (N : Nat) (w wq : World) (D V i HH g1 bl : Nat) : Prop :=
  ∃ s F W P, Pair wq D V s s F W P (fun b => b = HH ∨ b = g1) w.heap.size ∧ Good N s ∧ s.lo.length ≤ i ∧ Below w.heap.size w wq ∧ Buf wq g1 bl
/-- The copy of the act in a variable, and the buffer 'in'. -/
def copied (wh at_ n keep : Int) (ba : Option Addr) (bl bc : Nat) : Obj := .cells #[.int .i64 wh, .int .i64 at_, .int .i64 n, .slice ba bl bc, .int .u64 keep] 100
theorem mid_start {w wr : World} {D V b o : Nat} {wh at_ n keep : Int} {ba : Option Addr} {bl bc : Nat} {f : Nat → Nat} {s : St} {F W P : Nat → Prop} (hp : Pair wr D V s s F W P (fun _ => False) w.heap.size) (hbel : Below w.heap.size w wr)
    (hact : ActIn w b o wh at_ n keep ba bl bc f) (hbl : bl ≤ 200) :
    ∃ g1 c1 w1, (Builtin.append_ #[37, 37] 37 #[.slice (some ⟨wr.heap.size + 1, 0, none⟩) 0 0, .slice ba bl bc]).run Try.prog ((wr.alloc (copied wh at_ n keep ba bl bc)).alloc (.cells #[] 5)) = .ok (.slice (some ⟨g1, 0, none⟩) bl c1) w1 ∧
      Pair w1 D V s s F W P (fun b => b = wr.heap.size ∨ b = g1) w.heap.size ∧ Below w.heap.size w w1 ∧ Buf w1 g1 bl ∧ Rw w1 (some ⟨g1, 0, none⟩) bl f ∧ g1 ≠ wr.heap.size ∧ w.heap.size ≤ g1 ∧
      w1.heap[wr.heap.size]? = some (.cells #[.int .i64 wh, .int .i64 at_, .int .i64 n, .slice ba bl bc, .int .u64 keep] 100 (0, 0)) := by
  have b1 : Below w.heap.size w (wr.alloc (copied wh at_ n keep ba bl bc)) := hbel.trans (below_le ((Below.refl _ _).alloc (Nat.le_refl _) _) hbel.size)
  have b2 : Below w.heap.size w ((wr.alloc (copied wh at_ n keep ba bl bc)).alloc (.cells #[] 5)) := b1.trans (below_le ((Below.refl _ _).alloc (Nat.le_refl _) _) b1.size)
  have hs0 : (wr.alloc (copied wh at_ n keep ba bl bc)).heap.size = wr.heap.size + 1 := by simp
  have hs1 : ((wr.alloc (copied wh at_ n keep ba bl bc)).alloc (.cells #[] 5)).heap.size = wr.heap.size + 1 + 1 := by simp
  have ho0 := World.ownsRow_made (base := 0) (e := 5) (size := 1) (wr.alloc (copied wh at_ n keep ba bl bc)) #[] 0 (Nat.zero_le _) (by unfold maxLen; omega) (by simp)
  rw [hs0] at ho0
  obtain ⟨g1, c1, w1, hr, ho, hk, hat⟩ := run_append_in _ (wr.heap.size + 1) 0 0 [] ho0 ba bl bc f (hact.rw.below b2) hact.nil (by omega)
  rw [Nat.zero_add] at hr ho
  rw [hs1] at hat
  have hsz := hk.size
  rw [hs1] at hsz
  have hgn : wr.heap.size < g1 := by omega
  have hg1 := ownBlock_lt ho g1 rfl
  have kk : Keeps (fun _ => False) wr w1 := Keeps.trans (((Keeps.refl _ wr).alloc _).alloc _) (hk.mono (G := fun b => wr.heap.size ≤ b) (fun b _ e => by omega)) (fun b hb hb2 => by omega)
  refine ⟨g1, c1, w1, hr, ((hp.keeps kk (fun _ h => h.elim)).others (fun b hb => .inr ?_)), ?_, fun j hj => ?_, ⟨by unfold maxLen; omega, fun _ => ⟨g1, 0, rfl, fun j hj => ?_⟩⟩, by omega, by have := hbel.size; omega, ?_⟩
  · have hd := fun b hb => hp.d.lt b hb
    have hr := fun b hb => hp.r.lt b hb
    refine ⟨by rcases hb with rfl | rfl; omega; exact hg1, fun h => ?_, fun h => ?_, fun h => ?_⟩
    · have := hd b h; omega
    · have := hr b (.inl h); omega
    · have := hr b (.inr h); omega
  · exact b2.trans (hk.below _ (by rw [hs1]; have := hbel.size; omega) (fun b e => by have := hbel.size; omega))
  · refine ⟨⟨(f j : Int), ?_⟩, ho.frozenAt j⟩
    rw [ho.cellAt j (by omega), List.nil_append, valsOf_get _ _ _ hj]
  · rw [Nat.zero_add, ho.cellAt j (by omega), List.nil_append, valsOf_get _ _ _ hj]
  · rw [hk.block wr.heap.size (by rw [hs1]; omega) (by omega)]
    rw [(((Keeps.refl (fun _ => False) _).alloc (.cells #[] 5))).block wr.heap.size (by rw [hs0]; omega) (fun h => h)]
    exact heap_alloc_last wr _
/-- A disk and the other one, each a step on. -/
theorem mid_step {N : Nat} {w wq wa wb : World} {D V i HH g1 bl : Nat} {s s' : St} {F W P F' W' P' : Nat → Prop} (hp : Pair wq D V s s F W P (fun b => b = HH ∨ b = g1) w.heap.size) (hbel : Below w.heap.size w wq) (hbuf : Buf wq g1 bl)
    (hd : Disk wa D s' F') (hsd : Step F F' wq wa) (hr : RDisk wb V s' W' P') (hsr : RStep W P W' P' wa wb) (hg : Good N s') (hlo : s'.lo.length ≤ i) : MidAt N w wb D V i HH g1 bl := by
  have h1 := hp.stepD hd hsd
  have h2 := h1.stepR hr hsr
  exact ⟨s', F', W', P', h2, hg, hlo, (hbel.trans (hp.belowD hsd)).trans (h1.belowR hsr), (hbuf.of_block (hp.blockD hsd (.inr rfl))).of_block (h1.blockR hsr (.inr rfl))⟩
/-- Behind the buffer's loop: what the next round begins with. -/
theorem mid_done {N : Nat} {w wc wx : World} {D V i HH g1 : Nat} {s : St} {F W P : Nat → Prop} (hp : Pair wc D V s s F W P (fun b => b = HH ∨ b = g1) w.heap.size) (hbel : Below w.heap.size w wc) (hk : Keeps (fun b => b = g1) wc wx) (hg1 : w.heap.size ≤ g1) (hg : Good N s) (hlo : s.lo.length ≤ i) :
    Pair wx D V s s F W P (fun _ => False) w.heap.size ∧ BothAt N w wx D V i := by
  have ho := hp.oo g1 (.inr rfl)
  have h1 := (hp.keeps hk (fun b e => by subst e; exact ho.2)).others (O' := fun _ => False) (fun _ h => h.elim)
  exact ⟨h1, s, F, W, P, h1, hg, hlo, hbel.trans (hk.below _ hp.le (fun b e => by omega))⟩
/-- Nothing has happened to either. -/
theorem mid_same {N : Nat} {w wq : World} {D V i HH g1 bl : Nat} {s : St} {F W P : Nat → Prop} (hp : Pair wq D V s s F W P (fun b => b = HH ∨ b = g1) w.heap.size) (hbel : Below w.heap.size w wq) (hbuf : Buf wq g1 bl) (hg : Good N s) (hlo : s.lo.length ≤ i) : MidAt N w wq D V (i + 1) HH g1 bl :=
  ⟨s, F, W, P, hp, hg, by omega, hbel, hbuf⟩
theorem below_drew {B : Nat} {w wq : World} (h : Below B w wq) : Below B w wq.drew := ⟨h.os, h.tape, h.output, h.size, h.block⟩
theorem Buf.drew {w : World} {g bl : Nat} (h : Buf w g bl) : Buf w.drew g bl := h.of_block rfl
theorem BothAt.drewN {N : Nat} {w wq : World} {D V i : Nat} (h : BothAt N w wq D V i) (n : Nat) : BothAt N w (wq.drewN n) D V i := by
  obtain ⟨s, F, W, P, hp, hg, hlo, hb⟩ := h
  exact ⟨s, F, W, P, hp.later ⟨rfl, rfl, rfl, Nat.le_refl _, fun _ _ => rfl⟩, hg, hlo, hb.trans ⟨rfl, rfl, rfl, Nat.le_refl _, fun _ _ => rfl⟩⟩
end Go.Proofs.Ytbecchoidglaeaa
