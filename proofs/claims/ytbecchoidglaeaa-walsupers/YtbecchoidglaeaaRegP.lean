/- Entries on a disk in plain numbers: what Lay leaves is an entry; what a crash leaves of it; what is none. -/
import Derived.Test.YtbecchoidglaeaaRegC
namespace Go.Proofs.Ytbecchoidglaeaa
open Go.RowKit
set_option maxRecDepth 100000

/-- From sector at_ on the n pages G. -/
def over (g : Nat → Nat → Nat) (at_ : Nat) (G : Nat → Nat → Nat) (n : Nat) : Nat → Nat → Nat := fun i j => if at_ ≤ i ∧ i < at_ + n ∧ j < 64 then G (i - at_) j else g i j
theorem over_zero (g : Nat → Nat → Nat) (at_ : Nat) (G : Nat → Nat → Nat) : over g at_ G 0 = g := by
  funext i j
  unfold over
  rw [if_neg (by omega)]
theorem over_succ (g : Nat → Nat → Nat) (at_ : Nat) (G : Nat → Nat → Nat) (n : Nat) : over g at_ G (n + 1) = putPage (over g at_ G n) (at_ + n) 64 (G n) := by
  funext i j
  unfold over putPage
  by_cases h : i = at_ + n ∧ j < 64
  · rw [if_pos h, if_pos ⟨by omega, by omega, h.2⟩, show i - at_ = n from by omega]
  · rw [if_neg h]
    show _ = if at_ ≤ i ∧ i < at_ + n ∧ j < 64 then G (i - at_) j else g i j
    by_cases h2 : at_ ≤ i ∧ i < at_ + n ∧ j < 64
    · rw [if_pos h2, if_pos ⟨h2.1, by omega, h2.2.2⟩]
    · rw [if_neg h2, if_neg (by omega)]
/-- The disk is as its loose ones make it; with power. -/
theorem wr_ok {s : St} {i : Nat} {p : Nat → Nat} (h : (s.wr i p).2 = 0) : s.power = true ∧ (s.wr i p).1 = s.spent.write i p := by
  unfold St.wr at *
  cases hp : s.power with
  | true => rw [hp] at h; exact ⟨rfl, by simp⟩
  | false => rw [hp] at h; simp at h
theorem wr_no {s : St} {i : Nat} {p : Nat → Nat} (h : (s.wr i p).2 ≠ 0) : (s.wr i p).1 = s.spent := by
  unfold St.wr at *
  cases hp : s.power with
  | true => rw [hp] at h; simp at h
  | false => simp
theorem fl_ok {s : St} (h : s.fl.2 = 0) : s.fl.1 = s.spent.flush := by
  unfold St.fl at *
  cases hp : s.power with
  | true => simp
  | false => rw [hp] at h; simp at h
theorem fl_no {s : St} (h : s.fl.2 ≠ 0) : s.fl.1 = s.spent := by
  unfold St.fl at *
  cases hp : s.power with
  | true => rw [hp] at h; simp at h
  | false => simp
/-- 'now' is what the loose ones make of 'lasts'. -/
def Made (s : St) : Prop := s.now = lay (fun _ => 64) s.lo s.lasts s.lo.length
theorem lay_more (m : Nat → Nat) (lo l : List (Nat × (Nat → Nat))) (g : Nat → Nat → Nat) : ∀ k, k ≤ lo.length → lay m (lo ++ l) g k = lay m lo g k
  | 0, _ => rfl
  | k + 1, hk => by
    obtain ⟨x, hx⟩ : ∃ x, lo[k]? = some x := ⟨_, List.getElem?_eq_getElem (by omega)⟩
    rw [lay_succ m lo g k x hx, lay_succ m (lo ++ l) g k x (by rw [List.getElem?_append_left (by omega)]; exact hx), lay_more m lo l g k (by omega)]
theorem made_write {s : St} (h : Made s) (i : Nat) (p : Nat → Nat) : Made (s.write i p) := by
  unfold Made St.write at *
  simp only [List.length_append, List.length_cons, List.length_nil]
  rw [lay_succ _ _ _ s.lo.length (i, p) (by simp), lay_more _ _ _ _ _ (Nat.le_refl _), ← h]
theorem made_wr {s : St} (h : Made s) (i : Nat) (p : Nat → Nat) : Made (s.wr i p).1 := by
  unfold St.wr
  split
  · exact made_write (s := s.spent) h i p
  · exact h
/-- What k Writes without an error leave. -/
theorem pages_ok {s : St} (hm : Made s) {at_ : Nat} {G : Nat → Nat → Nat} : ∀ k, (pages s at_ G k).2 = 0 →
    (pages s at_ G k).1.now = over s.now at_ G k ∧ (pages s at_ G k).1.lasts = s.lasts ∧ Made (pages s at_ G k).1
  | 0, _ => ⟨(over_zero _ _ _).symm, rfl, hm⟩
  | k + 1, h => by
    by_cases h0 : (pages s at_ G k).2 = 0
    · have e : pages s at_ G (k + 1) = (pages s at_ G k).1.wr (at_ + k) (G k) := by
        conv => lhs; unfold pages
        rw [if_pos h0]
      obtain ⟨h1, h2, h3⟩ := pages_ok hm k h0
      rw [e] at h
      rw [e]
      refine ⟨?_, ?_, made_wr h3 _ _⟩
      · rw [(wr_ok h).2, over_succ, ← h1]; rfl
      · rw [(wr_ok h).2]; exact h2
    · have e : pages s at_ G (k + 1) = pages s at_ G k := by
        conv => lhs; unfold pages
        rw [if_neg h0]
      rw [e] at h
      exact absurd h h0
/-- What Writes leave, with or without an error: 'lasts' as it was, all that is loose at these sectors. -/
theorem pages_loose {s : St} {at_ : Nat} {G : Nat → Nat → Nat} : ∀ k, (pages s at_ G k).1.lasts = s.lasts ∧ ∀ x ∈ (pages s at_ G k).1.lo, x ∈ s.lo ∨ (at_ ≤ x.1 ∧ x.1 < at_ + k)
  | 0 => ⟨rfl, fun x hx => .inl hx⟩
  | k + 1 => by
    obtain ⟨h1, h2⟩ := pages_loose (s := s) (at_ := at_) (G := G) k
    have h2' : ∀ x ∈ (pages s at_ G k).1.lo, x ∈ s.lo ∨ (at_ ≤ x.1 ∧ x.1 < at_ + (k + 1)) := fun x hx => by
      rcases h2 x hx with h | h
      · exact .inl h
      · exact .inr ⟨h.1, by omega⟩
    unfold pages
    split
    · unfold St.wr
      split
      · refine ⟨h1, fun x hx => ?_⟩
        have hx' : x ∈ (pages s at_ G k).1.lo ++ [(at_ + k, G k)] := hx
        rcases List.mem_append.1 hx' with h | h
        · exact h2' x h
        · simp at h; subst h; exact .inr ⟨by show at_ ≤ at_ + k; omega, by show at_ + k < _; omega⟩
      · exact ⟨h1, h2'⟩
    · exact ⟨h1, h2'⟩
/-- Nothing is loose, all lasts. -/
def Still (s : St) : Prop := s.lo = [] ∧ s.lasts = s.now
theorem still_made {s : St} (h : Still s) : Made s := by
  unfold Made
  rw [h.1, h.2]
  rfl
theorem still_flush {s : St} (h : Made s) : Still s.spent.flush := ⟨rfl, by
  show lay (fun _ => 64) s.lo s.lasts s.lo.length = s.now
  exact h.symm⟩
/-- put, of a disk that is still. -/
theorem put_ok {s : St} (hs : Still s) {at_ : Nat} {f : Nat → Nat} {len : Nat} (h : (s.put at_ f len).2 = 0) : Still (s.put at_ f len).1 ∧ (s.put at_ f len).1.now = over s.now at_ (leaf f len) ((len + 63) / 64) := by
  unfold St.put at *
  simp only at *
  by_cases h0 : (pages s at_ (leaf f len) ((len + 63) / 64)).2 = 0
  · rw [if_pos h0] at *
    obtain ⟨h1, h2, h3⟩ := pages_ok (still_made hs) _ h0
    rw [fl_ok h]
    exact ⟨still_flush h3, h1⟩
  · rw [if_neg h0] at h
    exact absurd h h0
theorem put_no {s : St} (hs : Still s) {at_ : Nat} {f : Nat → Nat} {len : Nat} (h : (s.put at_ f len).2 ≠ 0) : (s.put at_ f len).1.lasts = s.now ∧ ∀ x ∈ (s.put at_ f len).1.lo, at_ ≤ x.1 ∧ x.1 < at_ + (len + 63) / 64 := by
  unfold St.put at *
  simp only at *
  obtain ⟨h1, h2⟩ := pages_loose (s := s) (at_ := at_) (G := leaf f len) ((len + 63) / 64)
  have h2' : ∀ x ∈ (pages s at_ (leaf f len) ((len + 63) / 64)).1.lo, at_ ≤ x.1 ∧ x.1 < at_ + (len + 63) / 64 := fun x hx => by
    rcases h2 x hx with h | h
    · rw [hs.1] at h; cases h
    · exact h
  by_cases h0 : (pages s at_ (leaf f len) ((len + 63) / 64)).2 = 0
  · rw [if_pos h0] at *
    rw [fl_no h]
    exact ⟨h1.trans hs.2, h2'⟩
  · rw [if_neg h0]
    exact ⟨h1.trans hs.2, h2'⟩
/-- What is loose elsewhere does not turn sector i. -/
theorem lay_out (m : Nat → Nat) (lo : List (Nat × (Nat → Nat))) (g : Nat → Nat → Nat) (i : Nat) (h : ∀ x ∈ lo, x.1 ≠ i) : ∀ k, k ≤ lo.length → lay m lo g k i = g i
  | 0, _ => rfl
  | k + 1, hk => by
    obtain ⟨x, hx⟩ : ∃ x, lo[k]? = some x := ⟨_, List.getElem?_eq_getElem (by omega)⟩
    rw [lay_succ m lo g k x hx]
    funext j
    unfold putPage
    rw [if_neg (fun e => h x (List.mem_of_getElem? hx) e.1.symm), lay_out m lo g i h k (by omega)]
/-! ### Entries -/
theorem ent0_at (gen : Nat) (f : Nat → Nat) (len j : Nat) (hj : j < 16) : ent gen f len 0 j = head16 gen len (crc f len) j := by
  show fill (head16 gen len (crc f len)) 16 j = _
  unfold fill
  rw [if_pos hj]
theorem head_gen (gen len c j : Nat) (hj : j < 4) : head16 gen len c j = four gen j := by
  unfold head16 head12 cat
  rw [if_pos (by omega), if_pos (by omega), if_pos hj]
theorem head_len (gen len c j : Nat) (hj : j < 4) : head16 gen len c (4 + j) = four len j := by
  unfold head16 head12 cat
  rw [if_pos (by omega), if_pos (by omega), if_neg (by omega), show 4 + j - 4 = j from by omega]
theorem head_crc (gen len c j : Nat) (hj : j < 4) : head16 gen len c (8 + j) = four c j := by
  unfold head16 head12 cat
  rw [if_pos (by omega), if_neg (by omega), show 8 + j - 8 = j from by omega]
theorem head_sum (gen len c j : Nat) (hj : j < 4) : head16 gen len c (12 + j) = four (crc (head12 gen len c) 12) j := by
  show cat (head12 gen len c) 12 (four (crc (head12 gen len c) 12)) (12 + j) = _
  conv => lhs; unfold cat
  rw [if_neg (by omega), show 12 + j - 12 = j from by omega]
theorem num_congr {f g : Nat → Nat} (h : ∀ i, i < 4 → f i = g i) : num f = num g := by
  unfold num
  rw [h 0 (by omega), h 1 (by omega), h 2 (by omega), h 3 (by omega)]
theorem ent0_congr (gen : Nat) (f g : Nat → Nat) (len : Nat) (h : ∀ i, i < len → f i = g i) : ent gen f len 0 = ent gen g len 0 := by
  show fill (head16 gen len (crc f len)) 16 = fill (head16 gen len (crc g len)) 16
  rw [crc_congr f g len h]
theorem isEnt_parts {s : St} {at_ : Nat} {e : Int} {gen : Nat} (h : isEnt s at_ e gen = true) : fit s.n at_ e (lenAt s at_) = true ∧ (∀ j, j < 64 → s.now at_ j = ent gen (runs s (at_ + 1)) (lenAt s at_) 0 j) := by
  unfold isEnt at h
  rw [Bool.and_eq_true, Bool.and_eq_true] at h
  exact ⟨h.1, (eqB_iff _ _ _).1 h.2.2⟩
/-- The head and the pages of an entry: it is one. -/
theorem ent_there {s : St} {at_ gen len : Nat} {e : Int} {f : Nat → Nat} (hl : len < 4294967296) (hh : ∀ j, j < 64 → s.now at_ j = ent gen f len 0 j) (hb : ∀ i, i < (len + 63) / 64 → ∀ j, j < 64 → s.now (at_ + 1 + i) j = ent gen f len (i + 1) j)
    (hf : fit s.n at_ e len = true) : isEnt s at_ e gen = true ∧ lenAt s at_ = len ∧ ∀ j, j < len → runs s (at_ + 1) j = f j := by
  have h1 : lenAt s at_ = len := by
    unfold lenAt
    rw [← num_four len hl]
    refine num_congr fun i hi => ?_
    rw [hh (4 + i) (by omega), ent0_at _ _ _ _ (by omega), head_len _ _ _ _ hi]
  have h2 : ∀ j, j < (len + 63) / 64 * 64 → runs s (at_ + 1) j = if j < len then f j else 0 := fun j hj => by
    unfold runs
    rw [hb (j / 64) (by omega) (j % 64) (Nat.mod_lt _ (by omega))]
    show fill (fun q => f (j / 64 * 64 + q)) (len - j / 64 * 64) (j % 64) = _
    unfold fill
    by_cases hl2 : j < len
    · rw [if_pos (by omega), if_pos hl2]
      show f (j / 64 * 64 + j % 64) = f j
      rw [show j / 64 * 64 + j % 64 = j from by omega]
    · rw [if_neg (by omega), if_neg hl2]
  have h3 : ∀ j, j < len → runs s (at_ + 1) j = f j := fun j hj => by rw [h2 j (by omega), if_pos hj]
  refine ⟨?_, h1, h3⟩
  unfold isEnt
  rw [h1, hf, Bool.true_and, Bool.and_eq_true]
  refine ⟨(allZ_iff _ _).2 fun i hi => ?_, (eqB_iff _ _ _).2 fun i hi => ?_⟩
  · show runs s (at_ + 1) (len + i) = 0
    rw [h2 _ (by omega), if_neg (by omega)]
  · rw [hh i hi, ent0_congr gen f (runs s (at_ + 1)) len (fun j hj => (h3 j hj).symm)]
theorem four_inj {a b : Nat} (ha : a < 4294967296) (hb : b < 4294967296) (h : ∀ i, i < 4 → four a i = four b i) : a = b := by
  rw [← num_four a ha, ← num_four b hb]
  exact num_congr h
/-- An entry of another generation is none. -/
theorem ent_other {s : St} {at_ gen gen' len : Nat} {e : Int} {f : Nat → Nat} (hg : gen < 4294967296) (hg' : gen' < 4294967296) (hne : gen ≠ gen') (hh : ∀ j, j < 64 → s.now at_ j = ent gen f len 0 j) : isEnt s at_ e gen' = false := by
  cases h : isEnt s at_ e gen' with
  | false => rfl
  | true =>
    exfalso
    apply hne
    refine four_inj hg hg' fun i hi => ?_
    have := (isEnt_parts h).2 i (by omega)
    rw [hh i (by omega), ent0_at _ _ _ _ (by omega), ent0_at _ _ _ _ (by omega), head_gen _ _ _ _ hi, head_gen _ _ _ _ hi] at this
    exact this
theorem four_zero {a : Nat} (ha : a < 4294967296) (h : ∀ i, i < 4 → four a i = 0) : a = 0 :=
  four_inj ha (by omega) fun i hi => by rw [h i hi]; unfold four; simp
theorem zero_sum : crc (head12 0 0 0) 12 ≠ 0 := by
  rw [← beq_eq_false_iff_ne]
  kernel_rfl
theorem crc_none (f : Nat → Nat) : crc f 0 = 0 := by
  unfold crc crcUpto
  decide
/-- A sector that is 0 is no entry. -/
theorem ent_zero {s : St} {at_ gen : Nat} {e : Int} (hg : gen < 4294967296) (hz : ∀ j, j < 64 → s.now at_ j = 0) : isEnt s at_ e gen = false := by
  cases h : isEnt s at_ e gen with
  | false => rfl
  | true =>
    exfalso
    have hp := (isEnt_parts h).2
    have hl : lenAt s at_ = 0 := by
      unfold lenAt
      rw [num_congr (g := fun _ => 0) (fun i hi => hz (4 + i) (by omega))]
      rfl
    rw [hl] at hp
    have hz2 : ∀ j, j < 16 → head16 gen 0 (crc (runs s (at_ + 1)) 0) j = 0 := fun j hj => by
      rw [← ent0_at _ _ _ _ hj, ← hp j (by omega), hz j (by omega)]
    rw [crc_none] at hz2
    have hg0 : gen = 0 := four_zero hg fun i hi => by rw [← head_gen gen 0 0 i hi]; exact hz2 i (by omega)
    subst hg0
    refine zero_sum (four_zero (crc_lt _ _ (head12_lt 0 0 0)) fun i hi => ?_)
    rw [← head_sum 0 0 0 i hi]
    exact hz2 _ (by omega)
theorem found_one {s : St} {at_ : Nat} {e : Int} {gen K K' : Nat} (h : Found s at_ e gen K) (h' : Found s at_ e gen K') : K = K' := by
  rcases Nat.lt_trichotomy K K' with h1 | h1 | h1
  · have := h'.1 K h1; rw [h.2] at this; cases this
  · exact h1
  · have := h.1 K' h1; rw [h'.2] at this; cases this
end Go.Proofs.Ytbecchoidglaeaa
