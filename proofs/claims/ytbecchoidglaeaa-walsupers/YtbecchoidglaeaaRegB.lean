/- All bytes of a disk are bytes, whatever is done with it. -/
import Derived.Test.YtbecchoidglaeaaRegD
import Derived.Test.YtbecchoidglaeaaRegQ
import Derived.Test.YtbecchoidglaeaaBts
namespace Go.Proofs.Ytbecchoidglaeaa
open Go.RowKit
set_option maxRecDepth 100000

theorem Bts.byt {s : St} (h : Bts s) : Byt s := fun i _ j _ => h.now i j
theorem Bts.wr {s : St} (h : Bts s) (i : Nat) {p : Nat → Nat} (hp : ∀ j, p j < 256) : Bts (s.wr i p).1 := by
  unfold St.wr
  split
  · exact h.spent.write i hp
  · exact h.spent
theorem Bts.fl {s : St} (h : Bts s) : Bts s.fl.1 := by
  unfold St.fl
  split
  · exact h.spent.flush
  · exact h.spent
theorem Bts.pages {s : St} (h : Bts s) (at_ : Nat) {G : Nat → Nat → Nat} (hG : ∀ i j, G i j < 256) : ∀ k, Bts (pages s at_ G k).1
  | 0 => h
  | k + 1 => by
    unfold Go.Proofs.Ytbecchoidglaeaa.pages
    split
    · exact (Bts.pages h at_ hG k).wr _ (hG k)
    · exact Bts.pages h at_ hG k
theorem Bts.put {s : St} (h : Bts s) (at_ : Nat) {f : Nat → Nat} {len : Nat} (hf : ∀ i, i < len → f i < 256) : Bts (s.put at_ f len).1 := by
  have hp := h.pages at_ (G := leaf f len) (fun i => bts_fill (fun j hj => hf _ (by omega))) ((len + 63) / 64)
  unfold St.put
  simp only
  split
  · exact hp.fl
  · exact hp
theorem Bts.layd {s : St} (h : Bts s) (at_ gen : Nat) {f : Nat → Nat} {len : Nat} (hf : ∀ i, i < len → f i < 256) : Bts (s.lay at_ (ent gen f len) (cnt len)).1 := by
  rw [lay_puts]
  split
  · exact (h.put _ hf).put _ (fun i hi => ent0_lt gen f len i hi)
  · exact h.put _ hf
theorem Bts.cleans {s : St} (h : Bts s) (lo : Nat) : ∀ k, Bts (cleans s lo k).1.1
  | 0 => h
  | k + 1 => by
    unfold Go.Proofs.Ytbecchoidglaeaa.cleans
    split
    · split
      · exact Bts.cleans h lo k
      · exact (Bts.cleans h lo k).wr _ (bts_fill (fun i hi => absurd hi (by omega)))
    · exact Bts.cleans h lo k
theorem found_bound {s : St} {at_ : Nat} {e : Int} {gen K : Nat} (h : Found s at_ e gen K) : K ≤ s.n := by
  cases K with
  | zero => exact Nat.zero_le _
  | succ k =>
    have h1 := (isEnt_lt (h.1 k (by omega))).1
    have h2 := pos_ge s at_ (k + 1)
    have h3 : pos s at_ (k + 1) ≤ s.n := h1
    omega
theorem still_new (n : Nat) : Still (St.made n) := ⟨rfl, rfl⟩
theorem live_new (n : Nat) : Live (St.made n) := ⟨rfl, rfl⟩
/-- An entry laid on a new disk: it is there, and it alone. -/
theorem lay_new (n at_ gen : Nat) (e : Int) (f : Nat → Nat) (len : Nat) (hg : gen ≤ 2147483647) (hl : len ≤ 8192) (hf : fit n at_ e len = true) {T : St} (hT : T = ((St.made n).lay at_ (ent gen f len) (cnt len)).1) :
    Found T at_ e gen 1 ∧ pos T at_ 1 = at_ + cnt len ∧ lenAt T at_ = len ∧ (∀ j, j < len → runs T (at_ + 1) j = f j) ∧ (∀ j, j < 64 → T.now at_ j = ent gen f len 0 j) ∧ T.n = n ∧ Still T ∧ Live T ∧ (∀ i, i < at_ ∨ at_ + cnt len ≤ i → ∀ j, T.now i j = 0) ∧ Pages T.now at_ gen f len 64 := by
  obtain ⟨h0, h1⟩ := (live_new n).lay at_ gen f len
  obtain ⟨h2, h3, h4⟩ := lay_done (still_new n) h0
  have hn := lay_n (St.made n) at_ gen f len
  rw [← hT] at h1 h2 h3 h4 hn
  obtain ⟨e1, e2, e3⟩ := Pages.ent (s := T) (e := e) h4 (by omega) (by rw [hn]; exact hf)
  have hz : ∀ i, i < at_ ∨ at_ + cnt len ≤ i → ∀ j, T.now i j = 0 := fun i hi j => by rw [h3 i hi]; rfl
  have hp : pos T at_ 1 = at_ + cnt len := by show at_ + cnt (lenAt T at_) = _; rw [e2]
  refine ⟨⟨fun i hi => ?_, ?_⟩, hp, e2, e3, fun j hj => by rw [h4.1 j hj, if_pos hj], hn, h2, h1, hz, h4⟩
  · obtain rfl : i = 0 := by omega
    exact e1
  · rw [hp]
    exact ent_zero (by omega) (fun j _ => hz _ (.inr (Nat.le_refl _)) j)
end Go.Proofs.Ytbecchoidglaeaa
