/- Places with two places below, in memory: which block is the place of which prefix, and what each has. -/
import Derived.Test.YtfecknbneonidaaBase
import Derived.Test.YtfecknbneonidaaPfx
namespace Go.Proofs.Ytfecknbneonidaa
open Go.RowKit
set_option maxRecDepth 100000

/-- The prefix that is one bit longer. -/
def kid (a n s : Nat) : Nat := a + s * 2 ^ (31 - n)
theorem kid_cut (A n : Nat) (hn : n < 32) : kid (cutTo A n) n (bitAt A n) = cutTo A (n + 1) := (cutTo_succ A n hn).symm
/-- A key of a place: its first n bits are all that it has. -/
def Key (a n : Nat) : Prop := n ≤ 32 ∧ cutTo a n = a ∧ a < 4294967296
theorem key_zero : Key 0 0 := ⟨by omega, by simp [cutTo], by omega⟩
theorem key_cut (A n : Nat) (hA : A < 4294967296) (hn : n ≤ 32) : Key (cutTo A n) n := ⟨hn, cutTo_cut A n n (Nat.le_refl _) hn, cutTo_lt A n hA⟩
theorem kid_facts {a n s : Nat} (h : Key a n) (hn : n < 32) (hs : s < 2) : cutTo (kid a n s) (n + 1) = kid a n s ∧ cutTo (kid a n s) n = a ∧ bitAt (kid a n s) n = s ∧ kid a n s < 4294967296 := by
  obtain ⟨_, h2, h3⟩ := h
  have e32 : (4294967296 : Nat) = 2 ^ n * 2 * 2 ^ (31 - n) := by
    rw [← Nat.pow_succ, ← Nat.pow_add, show n + 1 + (31 - n) = 32 from by omega]
  unfold kid cutTo bitAt at *
  rw [show 32 - (n + 1) = 31 - n from by omega]
  rw [show 32 - n = (31 - n) + 1 from by omega, Nat.pow_succ] at *
  have hm := Nat.two_pow_pos (31 - n)
  generalize 2 ^ (31 - n) = m at *
  generalize a / (m * 2) = q at *
  subst h2
  have e : q * (m * 2) + s * m = (2 * q + s) * m := by rw [Nat.add_mul]; congr 1; ac_rfl
  rw [e, Nat.mul_div_cancel _ hm, ← Nat.div_div_eq_div_mul, Nat.mul_div_cancel _ hm, show (2 * q + s) / 2 = q from by omega]
  refine ⟨rfl, rfl, by omega, ?_⟩
  rw [e32] at h3 ⊢
  have h4 : 2 * q < 2 ^ n * 2 := by
    have : (2 * q) * m < (2 ^ n * 2) * m := by
      have e5 : 2 * q * m = q * (m * 2) := by ac_rfl
      omega
    exact Nat.lt_of_mul_lt_mul_right this
  exact Nat.mul_lt_mul_of_pos_right (by omega) hm
theorem kid_key {a n s : Nat} (h : Key a n) (hn : n < 32) (hs : s < 2) : Key (kid a n s) (n + 1) := ⟨hn, (kid_facts h hn hs).1, (kid_facts h hn hs).2.2.2⟩
theorem kid_inj {a n s a' s' : Nat} (h : Key a n) (h' : Key a' n) (hn : n < 32) (hs : s < 2) (hs' : s' < 2) (e : kid a n s = kid a' n s') : a = a' ∧ s = s' := by
  have f := kid_facts h hn hs
  have f' := kid_facts h' hn hs'
  rw [e] at f
  exact ⟨f.2.1.symm.trans f'.2.1, f.2.2.1.symm.trans f'.2.2.1⟩
theorem key_kid {x n : Nat} (h : Key x (n + 1)) : x = kid (cutTo x n) n (bitAt x n) := by
  rw [kid_cut x n (by have := h.1; omega), h.2.1]
theorem key_up {x n : Nat} (h : Key x (n + 1)) : Key (cutTo x n) n := key_cut x n h.2.2 (by have := h.1; omega)

def upd {α : Type} (f : Nat → Nat → α) (a n : Nat) (v : α) : Nat → Nat → α := fun x y => if x = a ∧ y = n then v else f x y
theorem upd_self {α : Type} (f : Nat → Nat → α) (a n : Nat) (v : α) : upd f a n v a n = v := by simp [upd]
theorem upd_ne {α : Type} (f : Nat → Nat → α) (a n : Nat) (v : α) (x y : Nat) (h : ¬ (x = a ∧ y = n)) : upd f a n v x y = f x y := by simp only [upd]; rw [if_neg h]

def adr (o : Option Nat) : Option Addr := o.map fun b => ⟨b, 0, none⟩
theorem adr_none : adr none = none := rfl
theorem adr_some (b : Nat) : adr (some b) = some ⟨b, 0, none⟩ := rfl

/-- The place at block b: two places below, and what it has. -/
structure PlaceAt (w : World) (b : Nat) (l r : Option Nat) (c : Option Int) : Prop where
  c0 : w.cell? ⟨b, 0, none⟩ = some (.pointer <| adr l)
  c1 : w.cell? ⟨b, 1, none⟩ = some (.pointer <| adr r)
  c2 : w.cell? ⟨b, 2, none⟩ = some (.bool c.isSome)
  c3 : w.cell? ⟨b, 3, none⟩ = some (.int .i64 (c.getD 0))
  fz : ∀ o, o < 4 → w.frozen? ⟨b, o, none⟩ = false
theorem PlaceAt.lt {w : World} {b : Nat} {l r : Option Nat} {c : Option Int} (h : PlaceAt w b l r c) : b < w.heap.size := World.block_lt_of_cell? w _ h.c0
theorem PlaceAt.of_block {w w' : World} {b : Nat} {l r : Option Nat} {c : Option Int} (h : PlaceAt w b l r c) (e : w'.heap[b]? = w.heap[b]?) : PlaceAt w' b l r c :=
  ⟨by rw [World.cell?_of_block (w := w) (by exact e)]; exact h.c0, by rw [World.cell?_of_block (w := w) (by exact e)]; exact h.c1, by rw [World.cell?_of_block (w := w) (by exact e)]; exact h.c2, by rw [World.cell?_of_block (w := w) (by exact e)]; exact h.c3,
    fun o ho => by rw [World.frozen?_of_block (w := w) (by exact e)]; exact h.fz o ho⟩
theorem PlaceAt.side {w : World} {b : Nat} {l r : Option Nat} {c : Option Int} (h : PlaceAt w b l r c) (s : Nat) (hs : s < 2) : w.cell? ⟨b, s, none⟩ = some (.pointer <| adr (if s = 0 then l else r)) := by
  match s, hs with
  | 0, _ => simpa using h.c0
  | 1, _ => simpa using h.c1
theorem cell_put (w : World) (b o : Nat) (v x : Value) (h : w.cell? ⟨b, o, none⟩ = some x) : (w.setCell ⟨b, o, none⟩ v).cell? ⟨b, o, none⟩ = some v := by
  have := World.cell?_setCells_in b [v] o w (fun q hq => by
    have : q = 0 := by simp at hq; omega
    subst this
    rw [Nat.add_zero, h]; rfl) 0 (by simp)
  simpa [World.setCells] using this
theorem cell_off (w : World) (b o p : Nat) (v : Value) (h : p ≠ o) : (w.setCell ⟨b, o, none⟩ v).cell? ⟨b, p, none⟩ = w.cell? ⟨b, p, none⟩ := by
  have := World.cell?_setCells_out b [v] o w ⟨b, p, none⟩ (fun _ _ => by simp; omega)
  simpa [World.setCells] using this
theorem fz_put (w : World) (b o : Nat) (v : Value) (a : Addr) : (w.setCell ⟨b, o, none⟩ v).frozen? a = w.frozen? a := by
  simp
theorem PlaceAt.put {w : World} {b : Nat} {l r : Option Nat} {c : Option Int} (h : PlaceAt w b l r c) (c' : Option Int) :
    PlaceAt ((w.setCell ⟨b, 2, none⟩ (.bool c'.isSome)).setCell ⟨b, 3, none⟩ (.int .i64 (c'.getD 0))) b l r c' :=
  ⟨by rw [cell_off _ _ _ _ _ (by omega), cell_off _ _ _ _ _ (by omega)]; exact h.c0, by rw [cell_off _ _ _ _ _ (by omega), cell_off _ _ _ _ _ (by omega)]; exact h.c1,
    by rw [cell_off _ _ _ _ _ (by omega)]; exact cell_put _ _ _ _ _ h.c2, cell_put _ _ _ _ (.int .i64 (c.getD 0)) (by rw [cell_off _ _ _ _ _ (by omega)]; exact h.c3),
    fun o ho => by rw [fz_put, fz_put]; exact h.fz o ho⟩
theorem PlaceAt.turn {w : World} {b : Nat} {l r : Option Nat} {c : Option Int} (h : PlaceAt w b l r c) (s : Nat) (hs : s < 2) (x : Option Nat) :
    PlaceAt (w.setCell ⟨b, s, none⟩ (.pointer (adr x))) b (if s = 0 then x else l) (if s = 0 then r else x) c := by
  match s, hs with
  | 0, _ => exact ⟨cell_put _ _ _ _ _ h.c0, by rw [cell_off _ _ _ _ _ (by omega)]; exact h.c1, by rw [cell_off _ _ _ _ _ (by omega)]; exact h.c2, by rw [cell_off _ _ _ _ _ (by omega)]; exact h.c3, fun o ho => by rw [fz_put]; exact h.fz o ho⟩
  | 1, _ => exact ⟨by rw [cell_off _ _ _ _ _ (by omega)]; exact h.c0, cell_put _ _ _ _ _ h.c1, by rw [cell_off _ _ _ _ _ (by omega)]; exact h.c2, by rw [cell_off _ _ _ _ _ (by omega)]; exact h.c3, fun o ho => by rw [fz_put]; exact h.fz o ho⟩

/-- The trie at block B: N tells the block of each prefix's place, C what each prefix has. -/
structure TrieIs (w : World) (B : Nat) (N : Nat → Nat → Option Nat) (C : Nat → Nat → Option Int) : Prop where
  root : N 0 0 = some B
  key : ∀ a n b, N a n = some b → Key a n
  place : ∀ a n b, N a n = some b → PlaceAt w b (N (kid a n 0) (n + 1)) (N (kid a n 1) (n + 1)) (C a n)
  inj : ∀ a n a' n' b, N a n = some b → N a' n' = some b → a = a' ∧ n = n'
  up : ∀ a n b, N a (n + 1) = some b → ∃ c, N (cutTo a n) n = some c
  gone : ∀ a n, N a n = none → C a n = none
def Blk (N : Nat → Nat → Option Nat) (b : Nat) : Prop := ∃ a n, N a n = some b
theorem TrieIs.of_blocks {w w' : World} {B : Nat} {N : Nat → Nat → Option Nat} {C : Nat → Nat → Option Int} (h : TrieIs w B N C) (e : ∀ b, Blk N b → w'.heap[b]? = w.heap[b]?) : TrieIs w' B N C :=
  ⟨h.root, h.key, fun a n b hb => (h.place a n b hb).of_block (e b ⟨a, n, hb⟩), h.inj, h.up, h.gone⟩
theorem TrieIs.lt {w : World} {B : Nat} {N : Nat → Nat → Option Nat} {C : Nat → Nat → Option Int} (h : TrieIs w B N C) (b : Nat) (hb : Blk N b) : b < w.heap.size := by
  obtain ⟨a, n, hb⟩ := hb
  exact (h.place a n b hb).lt
theorem TrieIs.later {w w' : World} {B : Nat} {N : Nat → Nat → Option Nat} {C : Nat → Nat → Option Int} (h : TrieIs w B N C) (hb : Below w.heap.size w w') : TrieIs w' B N C :=
  h.of_blocks fun b k => hb.block b (h.lt b k)
theorem TrieIs.keeps {F : Nat → Prop} {w w' : World} {B : Nat} {N : Nat → Nat → Option Nat} {C : Nat → Nat → Option Int} (h : TrieIs w B N C) (hk : Keeps F w w') (hn : ∀ b, Blk N b → ¬ F b) : TrieIs w' B N C :=
  h.of_blocks fun b k => hk.block b (h.lt b k) (hn b k)
theorem TrieIs.down {w : World} {B : Nat} {N : Nat → Nat → Option Nat} {C : Nat → Nat → Option Int} (h : TrieIs w B N C) (A k : Nat) (hk : N (cutTo A k) k = none) : ∀ n, k ≤ n → n ≤ 32 → N (cutTo A n) n = none := by
  intro n hn h32
  induction n with
  | zero => rw [show k = 0 from by omega] at hk; exact hk
  | succ n ih =>
    by_cases e : k = n + 1
    · subst e; exact hk
    · have i := ih (by omega) (by omega)
      cases e2 : N (cutTo A (n + 1)) (n + 1) with
      | none => rfl
      | some b =>
        obtain ⟨c, hc⟩ := h.up _ _ _ e2
        rw [cutTo_cut A (n + 1) n (by omega) h32, i] at hc
        cases hc
/-- The place below, on the side of A's next bit. -/
theorem TrieIs.step {w : World} {B : Nat} {N : Nat → Nat → Option Nat} {C : Nat → Nat → Option Int} (h : TrieIs w B N C) (A k b : Nat) (hk : k < 32) (hb : N (cutTo A k) k = some b) :
    w.cell? ⟨b, bitAt A k, none⟩ = some (.pointer <| adr (N (cutTo A (k + 1)) (k + 1))) := by
  have h2 := bitAt_lt A k
  rw [(h.place _ _ _ hb).side _ h2, ← kid_cut A k hk]
  by_cases e : bitAt A k = 0
  · rw [if_pos e, e]
  · rw [if_neg e, show bitAt A k = 1 from by omega]
theorem TrieIs.last {w : World} {B : Nat} {N : Nat → Nat → Option Nat} {C : Nat → Nat → Option Int} (h : TrieIs w B N C) (a b : Nat) (hb : N a 32 = some b) : w.cell? ⟨b, 0, none⟩ = some (.pointer none) := by
  have e : N (kid a 32 0) 33 = none := by
    cases e : N (kid a 32 0) 33 with
    | none => rfl
    | some c => have := (h.key _ _ _ e).1; omega
  have := (h.place _ _ _ hb).c0
  rw [show 32 + 1 = 33 from rfl, e] at this
  exact this
/-- Other prefixes' places stand where one block is turned. -/
theorem TrieIs.others {w w' : World} {B : Nat} {N : Nat → Nat → Option Nat} {C : Nat → Nat → Option Int} (h : TrieIs w B N C) {a n b : Nat} (hb : N a n = some b) (e : ∀ k, k < w.heap.size → k ≠ b → w'.heap[k]? = w.heap[k]?)
    (x y c : Nat) (hc : N x y = some c) (hne : ¬ (x = a ∧ y = n)) : PlaceAt w' c (N (kid x y 0) (y + 1)) (N (kid x y 1) (y + 1)) (C x y) :=
  (h.place x y c hc).of_block (e c (h.place x y c hc).lt fun e2 => by subst e2; exact hne (h.inj _ _ _ _ _ hc hb))
/-- What a prefix has is turned. -/
theorem TrieIs.put {w : World} {B : Nat} {N : Nat → Nat → Option Nat} {C : Nat → Nat → Option Int} (h : TrieIs w B N C) {a n b : Nat} (hb : N a n = some b) (c : Option Int) :
    TrieIs ((w.setCell ⟨b, 2, none⟩ (.bool c.isSome)).setCell ⟨b, 3, none⟩ (.int .i64 (c.getD 0))) B N (upd C a n c) := by
  refine ⟨h.root, h.key, fun x y d hd => ?_, h.inj, h.up, fun x y hx => ?_⟩
  · by_cases e : x = a ∧ y = n
    · obtain ⟨rfl, rfl⟩ := e
      rw [hb] at hd
      cases hd
      rw [upd_self]
      exact (h.place _ _ _ hb).put c
    · rw [upd_ne _ _ _ _ _ _ e]
      exact h.others hb (fun k _ hk => by rw [heap_setCell _ _ _ _ _ hk, heap_setCell _ _ _ _ _ hk]) x y d hd e
  · by_cases e : x = a ∧ y = n
    · obtain ⟨rfl, rfl⟩ := e
      rw [hb] at hx; cases hx
    · rw [upd_ne _ _ _ _ _ _ e]
      exact h.gone x y hx
theorem kid_ne {a n s : Nat} : ¬ (kid a n s = a ∧ n + 1 = n) := by omega
/-- Below a place another one (or none) is hung. -/
theorem TrieIs.hang {w w' : World} {B : Nat} {N : Nat → Nat → Option Nat} {C : Nat → Nat → Option Int} (h : TrieIs w B N C) {a n b s : Nat} (hb : N a n = some b) (hn : n < 32) (hs : s < 2) (x : Option Nat)
    (e1 : PlaceAt w' b (if s = 0 then x else N (kid a n 0) (n + 1)) (if s = 0 then N (kid a n 1) (n + 1) else x) (C a n))
    (e2 : ∀ k, k < w.heap.size → k ≠ b → w'.heap[k]? = w.heap[k]?) (hx : ∀ c, x = some c → PlaceAt w' c none none none ∧ w.heap.size ≤ c)
    (hk0 : N (kid (kid a n s) (n + 1) 0) (n + 2) = none) (hk1 : N (kid (kid a n s) (n + 1) 1) (n + 2) = none) (hc : C (kid a n s) (n + 1) = none) :
    TrieIs w' B (upd N (kid a n s) (n + 1) x) C := by
  have K := h.key _ _ _ hb
  have kid_other : ∀ x' y c t, N x' y = some c → t < 2 → ¬ (x' = a ∧ y = n ∧ t = s) → upd N (kid a n s) (n + 1) x (kid x' y t) (y + 1) = N (kid x' y t) (y + 1) := by
    intro x' y c t hc' ht hne
    refine upd_ne _ _ _ _ _ _ fun ⟨f1, f2⟩ => hne ?_
    have f3 : y = n := by omega
    subst f3
    have := kid_inj (h.key _ _ _ hc') K hn ht hs f1
    exact ⟨this.1, rfl, this.2⟩
  refine ⟨by rw [upd_ne _ _ _ _ _ _ (by omega)]; exact h.root, fun x' y c hc' => ?_, fun x' y c hc' => ?_, fun x1 y1 x2 y2 c h1 h2 => ?_, fun x' y c hc' => ?_, fun x' y hx' => ?_⟩
  · by_cases e : x' = kid a n s ∧ y = n + 1
    · rw [e.1, e.2]; exact kid_key K hn hs
    · rw [upd_ne _ _ _ _ _ _ e] at hc'; exact h.key _ _ _ hc'
  · by_cases e : x' = kid a n s ∧ y = n + 1
    · obtain ⟨rfl, rfl⟩ := e
      rw [upd_self] at hc'
      rw [upd_ne _ _ _ _ _ _ (by omega), upd_ne _ _ _ _ _ _ (by omega), show n + 1 + 1 = n + 2 from rfl, hk0, hk1, hc]
      exact (hx c hc').1
    · rw [upd_ne _ _ _ _ _ _ e] at hc'
      by_cases f : x' = a ∧ y = n
      · obtain ⟨rfl, rfl⟩ := f
        rw [hb] at hc'
        cases hc'
        match s, hs with
        | 0, _ =>
          rw [upd_self, kid_other _ _ _ 1 hb (by omega) (by omega)]
          simpa using e1
        | 1, _ =>
          rw [upd_self, kid_other _ _ _ 0 hb (by omega) (by omega)]
          simpa using e1
      · rw [kid_other _ _ _ 0 hc' (by omega) (fun g => f ⟨g.1, g.2.1⟩), kid_other _ _ _ 1 hc' (by omega) (fun g => f ⟨g.1, g.2.1⟩)]
        exact h.others hb e2 x' y c hc' f
  · by_cases f1 : x1 = kid a n s ∧ y1 = n + 1
    · by_cases f2 : x2 = kid a n s ∧ y2 = n + 1
      · exact ⟨f1.1.trans f2.1.symm, f1.2.trans f2.2.symm⟩
      · rw [f1.1, f1.2, upd_self] at h1
        rw [upd_ne _ _ _ _ _ _ f2] at h2
        have := (hx c h1).2
        have := h.lt c ⟨_, _, h2⟩
        omega
    · rw [upd_ne _ _ _ _ _ _ f1] at h1
      by_cases f2 : x2 = kid a n s ∧ y2 = n + 1
      · rw [f2.1, f2.2, upd_self] at h2
        have := (hx c h2).2
        have := h.lt c ⟨_, _, h1⟩
        omega
      · rw [upd_ne _ _ _ _ _ _ f2] at h2
        exact h.inj _ _ _ _ _ h1 h2
  · by_cases e : x' = kid a n s ∧ y + 1 = n + 1
    · have ey : y = n := by omega
      subst ey
      rw [e.1, (kid_facts K hn hs).2.1, upd_ne _ _ _ _ _ _ (by omega)]
      exact ⟨b, hb⟩
    · rw [upd_ne _ _ _ _ _ _ e] at hc'
      obtain ⟨d, hd⟩ := h.up _ _ _ hc'
      refine ⟨d, ?_⟩
      rw [upd_ne]
      · exact hd
      · rintro ⟨f1, f2⟩
        subst f2
        have kx := h.key _ _ _ hc'
        have e3 := key_kid kx
        rw [f1] at e3
        have hbit := bitAt_lt x' (n + 1)
        generalize bitAt x' (n + 1) = t at e3 hbit
        match t, hbit with
        | 0, _ => rw [← e3, hc'] at hk0; cases hk0
        | 1, _ => rw [← e3, hc'] at hk1; cases hk1
  · by_cases e : x' = kid a n s ∧ y = n + 1
    · rw [e.1, e.2]; exact hc
    · rw [upd_ne _ _ _ _ _ _ e] at hx'; exact h.gone _ _ hx'
end Go.Proofs.Ytfecknbneonidaa
