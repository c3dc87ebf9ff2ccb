/- The document's Crash, whatever is torn. -/
import Derived.Test.YtbecchoidglaeaaRCrashA
import Derived.Test.YtbecchoidglaeaaRCrashB
import Derived.Test.YtbecchoidglaeaaRCrashC
import Derived.Test.YtbecchoidglaeaaRCrashD
import Derived.Test.YtbecchoidglaeaaGRFoot
import Derived.Test.YtbecchoidglaeaaGFlush
namespace Go.Proofs.Ytbecchoidglaeaa
open Go.RowKit
set_option maxRecDepth 100000

theorem rcrash_in {w : World} {V : Nat} {sv lv : Value} {pgs : List Value} {lps : List (Nat × Value)} {P : Nat → Prop} {s : St} (h : RefIn w V sv lv pgs lps P s) (keep : Nat) (torn at_ : Int) :
    Calls Try.prog 21 #[.pointer (some ⟨V, 0, none⟩), .int .u64 (keep : Int), .int .i64 torn, .int .i64 at_] w fun e w' =>
      e = .returned (.tuple #[]) ∧ ∃ W' P', RDisk w' V (s.crash keep torn at_) W' P' ∧ RStep (rfoot V sv lv) P W' P' w w' := by
  by_cases h0 : at_ < 0
  · exact rcrash_low h keep torn at_ h0
  · by_cases h1 : 64 < at_
    · exact rcrash_big h keep torn at_ h1
    · by_cases h2 : at_ = 64
      · have := rcrash_end h keep torn at_ h2
        rw [← h2] at this
        exact this
      · obtain ⟨m, rfl⟩ := Int.eq_ofNat_of_zero_le (show 0 ≤ at_ by omega)
        exact rcrash_mid h keep torn m (by omega)
section
variable {w : World} {V : Nat} {s : St} {W P : Nat → Prop}
theorem rdisk_crash (h : RDisk w V s W P) (keep torn at_ : Int) (hk0 : 0 ≤ keep) :
    Calls Try.prog 21 #[.pointer (some ⟨V, 0, none⟩), .int .u64 keep, .int .i64 torn, .int .i64 at_] w fun e w' =>
      e = .returned (.tuple #[]) ∧ ∃ W' P', RDisk w' V (s.crash keep.toNat torn at_) W' P' ∧ RStep W P W' P' w w' := by
  obtain ⟨keep, rfl⟩ := Int.eq_ofNat_of_zero_le hk0
  obtain ⟨sv, lv, pgs, lps, h, rfl⟩ := h
  exact rcrash_in h keep torn at_
end
end Go.Proofs.Ytbecchoidglaeaa
/- Two disks beside each other, the program's and the document's ('Pair'); what happens to them ('ActIn'). -/
namespace Go.Proofs.Ytbecchoidglaeaa
open Go.RowKit
set_option maxRecDepth 100000

/-- The program's disk D is s1, the document's V is s2; their blocks are apart, and new since B; the blocks O are neither's. -/
structure Pair (w : World) (D V : Nat) (s1 s2 : St) (F W P O : Nat → Prop) (B : Nat) : Prop where
  d : Disk w D s1 F
  r : RDisk w V s2 W P
  hF : ∀ b, F b → B ≤ b
  hW : ∀ b, W b → B ≤ b
  hP : ∀ b, P b → B ≤ b
  fw : ∀ b, F b → ¬ W b
  fp : ∀ b, F b → ¬ P b
  oo : ∀ b, O b → b < w.heap.size ∧ ¬ F b ∧ ¬ W b ∧ ¬ P b
  le : B ≤ w.heap.size

section
variable {w w' : World} {D V B : Nat} {s1 s2 : St} {F W P O : Nat → Prop}
theorem Pair.keeps (h : Pair w D V s1 s2 F W P O B) {G : Nat → Prop} (hk : Keeps G w w') (hG : ∀ b, G b → ¬ F b ∧ ¬ W b ∧ ¬ P b) : Pair w' D V s1 s2 F W P O B where
  d := h.d.keeps hk (fun b hb hg => (hG b hg).1 hb)
  r := h.r.keeps hk (fun b hb hg => (hG b hg).2.1 hb) (fun b hb hg => (hG b hg).2.2 hb)
  hF := h.hF
  hW := h.hW
  hP := h.hP
  fw := h.fw
  fp := h.fp
  oo := fun b hb => ⟨Nat.lt_of_lt_of_le (h.oo b hb).1 hk.size, (h.oo b hb).2⟩
  le := Nat.le_trans h.le hk.size
theorem Pair.later (h : Pair w D V s1 s2 F W P O B) (hb : Below w.heap.size w w') : Pair w' D V s1 s2 F W P O B := h.keeps (G := fun _ => False) (Keeps.of_below hb _) (fun _ h => h.elim)
theorem Pair.alloc (h : Pair w D V s1 s2 F W P O B) (o : Obj) : Pair (w.alloc o) D V s1 s2 F W P O B := h.keeps (G := fun _ => False) ((Keeps.refl _ _).alloc o) (fun _ h => h.elim)
theorem Pair.drew (h : Pair w D V s1 s2 F W P O B) : Pair w.drew D V s1 s2 F W P O B := h.keeps (G := fun _ => False) (Keeps.refl _ _).drew (fun _ h => h.elim)
/-- Other blocks that are neither's. -/
theorem Pair.others (h : Pair w D V s1 s2 F W P O B) {O' : Nat → Prop} (hO : ∀ b, O' b → O b ∨ (b < w.heap.size ∧ ¬ F b ∧ ¬ W b ∧ ¬ P b)) : Pair w D V s1 s2 F W P O' B :=
  { h with oo := fun b hb => by rcases hO b hb with h1 | h1; exact h.oo b h1; exact h1 }
theorem Pair.stepD (h : Pair w D V s1 s2 F W P O B) {s1' : St} {F' : Nat → Prop} (hd : Disk w' D s1' F') (hst : Step F F' w w') : Pair w' D V s1' s2 F' W P O B where
  d := hd
  r := h.r.keeps hst.1 (fun b hb hf => h.fw b hf hb) (fun b hb hf => h.fp b hf hb)
  hF := fun b hb => by have := h.le; rcases hst.2 b hb with h1 | h1; exact h.hF b h1; omega
  hW := h.hW
  hP := h.hP
  fw := fun b hb hw => by rcases hst.2 b hb with h1 | h1; exact h.fw b h1 hw; have := h.r.lt b (.inl hw); omega
  fp := fun b hb hp => by rcases hst.2 b hb with h1 | h1; exact h.fp b h1 hp; have := h.r.lt b (.inr hp); omega
  oo := fun b hb => by
    have ho := h.oo b hb
    refine ⟨Nat.lt_of_lt_of_le ho.1 hst.1.size, fun hf => ?_, ho.2.2⟩
    rcases hst.2 b hf with h1 | h1
    · exact ho.2.1 h1
    · omega
  le := Nat.le_trans h.le hst.1.size
theorem Pair.stepR (h : Pair w D V s1 s2 F W P O B) {s2' : St} {W' P' : Nat → Prop} (hr : RDisk w' V s2' W' P') (hst : RStep W P W' P' w w') : Pair w' D V s1 s2' F W' P' O B where
  d := h.d.keeps hst.1 (fun b hb hw => h.fw b hb hw)
  r := hr
  hF := h.hF
  hW := fun b hb => by have := h.le; rcases hst.2.1 b hb with h1 | h1; exact h.hW b h1; omega
  hP := fun b hb => by have := h.le; rcases hst.2.2 b hb with h1 | h1; exact h.hP b h1; omega
  fw := fun b hb hw => by rcases hst.2.1 b hw with h1 | h1; exact h.fw b hb h1; have := h.d.lt b hb; omega
  fp := fun b hb hp => by rcases hst.2.2 b hp with h1 | h1; exact h.fp b hb h1; have := h.d.lt b hb; omega
  oo := fun b hb => by
    have ho := h.oo b hb
    refine ⟨Nat.lt_of_lt_of_le ho.1 hst.1.size, ho.2.1, fun hw => ?_, fun hp => ?_⟩
    · rcases hst.2.1 b hw with h1 | h1
      · exact ho.2.2.1 h1
      · omega
    · rcases hst.2.2 b hp with h1 | h1
      · exact ho.2.2.2 h1
      · omega
  le := Nat.le_trans h.le hst.1.size
theorem Pair.cellD (h : Pair w D V s1 s2 F W P O B) {F' : Nat → Prop} (hst : Step F F' w w') {b k : Nat} (hb : O b) : w'.cell? ⟨b, k, none⟩ = w.cell? ⟨b, k, none⟩ := hst.1.cell _ (h.oo b hb).1 (h.oo b hb).2.1
theorem Pair.cellR (h : Pair w D V s1 s2 F W P O B) {W' P' : Nat → Prop} (hst : RStep W P W' P' w w') {b k : Nat} (hb : O b) : w'.cell? ⟨b, k, none⟩ = w.cell? ⟨b, k, none⟩ := hst.1.cell _ (h.oo b hb).1 (h.oo b hb).2.2.1
theorem Pair.blockD (h : Pair w D V s1 s2 F W P O B) {F' : Nat → Prop} (hst : Step F F' w w') {b : Nat} (hb : O b) : w'.heap[b]? = w.heap[b]? := hst.1.block _ (h.oo b hb).1 (h.oo b hb).2.1
theorem Pair.blockR (h : Pair w D V s1 s2 F W P O B) {W' P' : Nat → Prop} (hst : RStep W P W' P' w w') {b : Nat} (hb : O b) : w'.heap[b]? = w.heap[b]? := hst.1.block _ (h.oo b hb).1 (h.oo b hb).2.2.1
theorem Pair.belowD (h : Pair w D V s1 s2 F W P O B) {F' : Nat → Prop} (hst : Step F F' w w') : Below B w w' := hst.1.below B h.le h.hF
theorem Pair.belowR (h : Pair w D V s1 s2 F W P O B) {W' P' : Nat → Prop} (hst : RStep W P W' P' w w') : Below B w w' := hst.1.below B h.le h.hW
end

/-- What Read answers is what the loose ones make of what lasts; all bytes are bytes; there are N sectors. -/
def Good (N : Nat) (s : St) : Prop := s.now = lay (fun _ => 64) s.lo s.lasts s.lo.length ∧ Bts s ∧ s.n = N
theorem lay_append (m : Nat → Nat) (lo l : List (Nat × (Nat → Nat))) (g : Nat → Nat → Nat) : ∀ k, k ≤ lo.length → lay m (lo ++ l) g k = lay m lo g k
  | 0, _ => rfl
  | k + 1, h => by
    have e : lo[k]? = some lo[k] := List.getElem?_eq_getElem (by omega)
    have e2 : (lo ++ l)[k]? = some lo[k] := by rw [List.getElem?_append_left (by omega)]; exact e
    rw [lay_succ _ _ _ k _ e, lay_succ _ _ _ k _ e2, lay_append m lo l g k (by omega)]
theorem good_made (n : Nat) : Good n (St.made n) := ⟨rfl, bts_made n, rfl⟩
theorem good_spent {N : Nat} {s : St} (h : Good N s) : Good N s.spent := ⟨h.1, h.2.1.spent, h.2.2⟩
theorem good_fuse {N : Nat} {s : St} (h : Good N s) (n : Int) : Good N (s.fuse n) := ⟨h.1, h.2.1.fuse n, h.2.2⟩
theorem good_write {N : Nat} {s : St} (h : Good N s) (i : Nat) {p : Nat → Nat} (hp : ∀ j, p j < 256) : Good N (s.write i p) := by
  refine ⟨?_, h.2.1.write i hp, h.2.2⟩
  show putPage s.now i 64 p = lay (fun _ => 64) (s.lo ++ [(i, p)]) s.lasts (s.lo ++ [(i, p)]).length
  rw [List.length_append, List.length_singleton, lay_succ _ _ _ s.lo.length (i, p) (by simp), lay_append _ _ _ _ _ (Nat.le_refl _)]
  have e : s.now = lay (fun _ => 64) s.lo s.lasts s.lo.length := h.1
  rw [e]
theorem good_flush {N : Nat} {s : St} (h : Good N s) : Good N s.flush := ⟨h.1, h.2.1.flush, h.2.2⟩
theorem good_crash {N : Nat} {s : St} (h : Good N s) (keep : Nat) (torn at_ : Int) : Good N (s.crash keep torn at_) := ⟨rfl, h.2.1.crash keep torn at_, h.2.2⟩

/-- What happens: the five cells of an act at b, o. -/
structure ActIn (w : World) (b o : Nat) (wh at_ n keep : Int) (ba : Option Addr) (bl bc : Nat) (f : Nat → Nat) : Prop where
  c0 : w.cell? ⟨b, o, none⟩ = some (.int .i64 wh)
  c1 : w.cell? ⟨b, o + 1, none⟩ = some (.int .i64 at_)
  c2 : w.cell? ⟨b, o + 2, none⟩ = some (.int .i64 n)
  c3 : w.cell? ⟨b, o + 3, none⟩ = some (.slice ba bl bc)
  c4 : w.cell? ⟨b, o + 4, none⟩ = some (.int .u64 keep)
  rw : Rw w ba bl f
  nil : ba = none → bl = 0 ∧ bc = 0
  f256 : ∀ i, i < bl → f i < 256
  at1 : -9223372036854775808 ≤ at_ ∧ at_ ≤ 9223372036854775807
  n1 : -9223372036854775808 ≤ n ∧ n ≤ 9223372036854775807
  k1 : 0 ≤ keep ∧ keep < 18446744073709551616
  cap : bl ≤ bc
theorem ActIn.below {w w' : World} {b o : Nat} {wh at_ n keep : Int} {ba : Option Addr} {bl bc : Nat} {f : Nat → Nat} (h : ActIn w b o wh at_ n keep ba bl bc f) (hb : Below w.heap.size w w') : ActIn w' b o wh at_ n keep ba bl bc f := by
  have hk := Keeps.of_below hb (fun _ => False)
  have hlt : b < w.heap.size := World.block_lt_of_cell? w _ h.c0
  have e : ∀ j, w'.cell? ⟨b, j, none⟩ = w.cell? ⟨b, j, none⟩ := fun j => hk.cell _ hlt (fun h => h)
  exact { h with c0 := by rw [e]; exact h.c0, c1 := by rw [e]; exact h.c1, c2 := by rw [e]; exact h.c2, c3 := by rw [e]; exact h.c3, c4 := by rw [e]; exact h.c4, rw := h.rw.below hb }
/-- A list of what happens. -/
def Acts (w : World) (a : Option Addr) (len : Nat) : Prop :=
  0 < len → ∃ b off, a = some ⟨b, off, none⟩ ∧ ∀ i, i < len → ∃ wh at_ n keep ba bl bc f, ActIn w b (off + i * 5) wh at_ n keep ba bl bc f
end Go.Proofs.Ytbecchoidglaeaa
