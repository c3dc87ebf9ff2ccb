/- Open, Append and Checkpoint of the program on a disk with power of which nothing is loose. -/
import Derived.Test.YtbecchoidglaeaaCalm
namespace Go.Proofs.Ytbecchoidglaeaa
open Go.RowKit
set_option maxRecDepth 100000

/-- v is the list of the entries' bytes that Open answers. -/
def ORows (w : World) (v : Value) (s : St) : Prop :=
  RowsRd w v (scanK (prep s).1 (fromOf s.n (genOf s)) (toOf s.n (genOf s) : Int) (genOf s)) (fun i => lenAt (prep s).1 (pos (prep s).1 (fromOf s.n (genOf s)) i)) (fun i => runs (prep s).1 (pos (prep s).1 (fromOf s.n (genOf s)) i + 1))
theorem lo_calm {s : St} (h : Calm s) : s.lo.length = 0 := by rw [h.still.1]; rfl
theorem open_ok {w : World} {D : Nat} {s : St} {F : Nat → Prop} (h : Disk w D s F) (hby : Bts s) (hn : 4 ≤ s.n) (hs : s.n ≤ 1024) (hlo : s.lo.length < 600000) (h0 : (openSt s).2 = 0) :
    Calls Try.prog 12 #[.pointer (some ⟨D, 0, none⟩)] w fun r w' => ∃ B v, r = .returned (.tuple #[.pointer (some ⟨B, 0, none⟩), v, .int .i64 0]) ∧ ∃ F', PLog w' B D (openLg s) (openSt s).1 F' ∧ Step F F' w w' ∧ w.heap.size ≤ B ∧ ORows w' v s := by
  refine (open_in h hby hn hs hlo).mono ?_
  rintro r w' ⟨F', h1, h2, ⟨_, B, v, rfl, h3, h4, h5, h6⟩ | ⟨h3, _⟩⟩
  · exact ⟨B, v, rfl, F', ⟨h3, h1, h5⟩, h2, h4, h6⟩
  · omega
theorem append_calm {w : World} {B D : Nat} {g : Lg} {s : St} {F : Nat → Prop} (h : PLog w B D g s F) (hc : Calm s) (hd : g.down = false) (hn : 4 ≤ s.n) (hs : s.n ≤ 1024) (hgen : g.gen ≤ 2147483647) (a : Option Addr) (len cap : Nat) (f : Nat → Nat) (hl : len ≤ 8192) (hcap : len ≤ cap)
    (hr : Rw w a len f) (hf : ∀ i, i < len → f i < 256) (ha : ∀ x, a = some x → 0 < len → ¬ F x.block) (hfit : fit s.n g.at_ (toOf s.n g.gen : Int) len = true) :
    Calls Try.prog 15 #[.pointer (some ⟨B, 0, none⟩), .slice a len cap] w fun r w' => r = .returned (.int .i64 0) ∧ ∃ F', PLog w' B D { g with at_ := g.at_ + cnt len } (s.lay g.at_ (ent g.gen f len) (cnt len)).1 F' ∧ PStep B F F' w w' := by
  have h0 := (calm_lay hc g.at_ g.gen f len hf).1
  refine (pappend_any h hn hs (by rw [lo_calm hc]; omega) hgen a len cap f hcap hr hf ha).mono ?_
  rintro r w' ⟨h1, F', h2, h3⟩
  rw [append_ok hd (by omega) hfit h0] at h1 h2
  exact ⟨h1, F', h2, h3⟩
theorem append_over {w : World} {B D : Nat} {g : Lg} {s : St} {F : Nat → Prop} (h : PLog w B D g s F) (hc : Calm s) (hd : g.down = false) (hn : 4 ≤ s.n) (hs : s.n ≤ 1024) (hgen : g.gen ≤ 2147483647) (a : Option Addr) (len cap : Nat) (f : Nat → Nat) (hl : len ≤ 8192) (hcap : len ≤ cap)
    (hr : Rw w a len f) (hf : ∀ i, i < len → f i < 256) (ha : ∀ x, a = some x → 0 < len → ¬ F x.block) (hfit : fit s.n g.at_ (toOf s.n g.gen : Int) len = false) :
    Calls Try.prog 15 #[.pointer (some ⟨B, 0, none⟩), .slice a len cap] w fun r w' => r = .returned (.int .i64 3) ∧ ∃ F', PLog w' B D g s F' ∧ PStep B F F' w w' := by
  refine (pappend_any h hn hs (by rw [lo_calm hc]; omega) hgen a len cap f hcap hr hf ha).mono ?_
  rintro r w' ⟨h1, F', h2, h3⟩
  rw [append_full hd (by omega) hfit] at h1 h2
  exact ⟨h1, F', h2, h3⟩
theorem check_calm {w : World} {B D : Nat} {g : Lg} {s : St} {F : Nat → Prop} (h : PLog w B D g s F) (hc : Calm s) (hd : g.down = false) (hn : 4 ≤ s.n) (hs : s.n ≤ 1024) (hgen : g.gen < 2147483647) (a : Option Addr) (len cap : Nat) (f : Nat → Nat) (hl : len ≤ 8192) (hcap : len ≤ cap)
    (hr : Rw w a len f) (hf : ∀ i, i < len → f i < 256) (ha : ∀ x, a = some x → 0 < len → ¬ F x.block) (hroom : cnt len ≤ half s.n) :
    Calls Try.prog 17 #[.pointer (some ⟨B, 0, none⟩), .slice a len cap] w fun r w' => r = .returned (.int .i64 0) ∧ ∃ F', PLog w' B D ⟨g.gen + 1, fromOf s.n (g.gen + 1) + cnt len, false⟩ (checkSt s (g.gen + 1) f len).1 F' ∧ PStep B F F' w w' := by
  have h0 := (calm_check hc (g.gen + 1) f len hn hf hroom).1
  refine (pcheck_any h hn hs (by rw [lo_calm hc]; omega) a len cap f hcap hr hf ha).mono ?_
  rintro r w' ⟨h1, F', h2, h3⟩
  rw [check_ok hd (by omega) (by omega) h0] at h1 h2
  exact ⟨h1, F', h2, h3⟩
theorem check_over {w : World} {B D : Nat} {g : Lg} {s : St} {F : Nat → Prop} (h : PLog w B D g s F) (hc : Calm s) (hd : g.down = false) (hn : 4 ≤ s.n) (hs : s.n ≤ 1024) (a : Option Addr) (len cap : Nat) (f : Nat → Nat) (hl : len ≤ 8192) (hcap : len ≤ cap)
    (hr : Rw w a len f) (hf : ∀ i, i < len → f i < 256) (ha : ∀ x, a = some x → 0 < len → ¬ F x.block) (hroom : half s.n < cnt len) :
    Calls Try.prog 17 #[.pointer (some ⟨B, 0, none⟩), .slice a len cap] w fun r w' => r = .returned (.int .i64 3) ∧ ∃ F', PLog w' B D g s F' ∧ PStep B F F' w w' := by
  refine (pcheck_any h hn hs (by rw [lo_calm hc]; omega) a len cap f hcap hr hf ha).mono ?_
  rintro r w' ⟨h1, F', h2, h3⟩
  rw [check_full hd (by omega) (.inr hroom)] at h1 h2
  exact ⟨h1, F', h2, h3⟩
/-- All of a call's blocks are new since B0. -/
theorem PStep.below {B : Nat} {F F' : Nat → Prop} {w w' : World} (h : PStep B F F' w w') {B0 : Nat} (h0 : B0 ≤ w.heap.size) (hF : ∀ b, F b → B0 ≤ b) (hB : B0 ≤ B) : Below B0 w w' ∧ (∀ b, F' b → B0 ≤ b) ∧ B0 ≤ w'.heap.size :=
  ⟨h.1.below B0 h0 (fun b hb => by rcases hb with hb | hb; exact hF b hb; omega), fun b hb => by rcases h.2 b hb with h1 | h1; exact hF b h1; omega, Nat.le_trans h0 h.1.size⟩
end Go.Proofs.Ytbecchoidglaeaa
