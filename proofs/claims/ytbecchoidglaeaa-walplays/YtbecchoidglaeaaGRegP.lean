/- Entries on a disk in plain numbers: what Lay leaves is an entry; what a crash leaves of it; what is none. -/
import Derived.Test.YtbecchoidglaeaaGRegC
namespace Go.Proofs.Ytbecchoidglaeaa
open Go.RowKit
set_option maxRecDepth 100000

/-- From sector at_ on the n pages G. -/
def over (g : Nat → Nat → Nat) (at_ : Nat) (G : Nat → Nat → Nat) (n : Nat) : Nat → Nat → Nat := fun i j => if at_ ≤ i ∧ i < at_ + n ∧ j < 64 then G (i - at_) j else g i j
theorem over_zero (g : Nat → Nat → Nat) (at_ : Nat) (G : Nat → Nat → Nat) : over g at_ G 0 = g := by
  funext i j
  unfold over
  rw [if_neg (by omega)]
theorem over_succ (g : Nat → Nat → Nat) (at_ : Nat) (G : Nat → Nat → Nat) (n : Nat) : over g at_ G (n + 1) = putPage (over g at_ G n) (at_ + n) 64 (G n) := by
  funext i j
  unfold over putPage
  by_cases h : i = at_ + n ∧ j < 64
  · rw [if_pos h, if_pos ⟨by omega, by omega, h.2⟩, show i - at_ = n from by omega]
  · rw [if_neg h]
    show _ = if at_ ≤ i ∧ i < at_ + n ∧ j < 64 then G (i - at_) j else g i j
    by_cases h2 : at_ ≤ i ∧ i < at_ + n ∧ j < 64
    · rw [if_pos h2, if_pos ⟨h2.1, by omega, h2.2.2⟩]
    · rw [if_neg h2, if_neg (by omega)]
/-- The disk is as its loose ones make it; with power. -/
theorem wr_ok {s : St} {i : Nat} {p : Nat → Nat} (h : (s.wr i p).2 = 0) : s.power = true ∧ (s.wr i p).1 = s.spent.write i p := by
  unfold St.wr at *
  cases hp : s.power with
  | true => rw [hp] at h; exact ⟨rfl, by simp⟩
  | false => rw [hp] at h; simp at h
theorem wr_no {s : St} {i : Nat} {p : Nat → Nat} (h : (s.wr i p).2 ≠ 0) : (s.wr i p).1 = s.spent := by
  unfold St.wr at *
  cases hp : s.power with
  | true => rw [hp] at h; simp at h
  | false => simp
theorem fl_ok {s : St} (h : s.fl.2 = 0) : s.fl.1 = s.spent.flush := by
  unfold St.fl at *
  cases hp : s.power with
  | true => simp
  | false => rw [hp] at h; simp at h
theorem fl_no {s : St} (h : s.fl.2 ≠ 0) : s.fl.1 = s.spent := by
  unfold St.fl at *
  cases hp : s.power with
  | true => rw [hp] at h; simp at h
  | false => simp
/-- 'now' is what the loose ones make of 'lasts'. -/
def Made (s : St) : Prop := s.now = lay (fun _ => 64) s.lo s.lasts s.lo.length
theorem lay_more (m : Nat → Nat) (lo l : List (Nat × (Nat → Nat))) (g : Nat → Nat → Nat) : ∀ k, k ≤ lo.length → lay m (lo ++ l) g k = lay m lo g k
  | 0, _ => rfl
  | k + 1, hk => by
    obtain ⟨x, hx⟩ : ∃ x, lo[k]? = some x := ⟨_, List.getElem?_eq_getElem (by omega)⟩
    rw [lay_succ m lo g k x hx, lay_succ m (lo ++ l) g k x (by rw [List.getElem?_append_left (by omega)]; exact hx), lay_more m lo l g k (by omega)]
theorem made_write {s : St} (h : Made s) (i : Nat) (p : Nat → Nat) : Made (s.write i p) := by
  unfold Made St.write at *
  simp only [List.length_append, List.length_cons, List.length_nil]
  rw [lay_succ _ _ _ s.lo.length (i, p) (by simp), lay_more _ _ _ _ _ (Nat.le_refl _), ← h]
theorem made_wr {s : St} (h : Made s) (i : Nat) (p : Nat → Nat) : Made (s.wr i p).1 := by
  unfold St.wr
  split
  · exact made_write (s := s.spent) h i p
  · exact h
/-- What k Writes without an error leave. -/
theorem pages_ok {s : St} (hm : Made s) {at_ : Nat} {G : Nat → Nat → Nat} : ∀ k, (pages s at_ G k).2 = 0 →
    (pages s at_ G k).1.now = over s.now at_ G k ∧ (pages s at_ G k).1.lasts = s.lasts ∧ Made (pages s at_ G k).1
  | 0, _ => ⟨(over_zero _ _ _).symm, rfl, hm⟩
  | k + 1, h => by
    by_cases h0 : (pages s at_ G k).2 = 0
    · have e : pages s at_ G (k + 1) = (pages s at_ G k).1.wr (at_ + k) (G k) := by
        conv => lhs; unfold pages
        rw [if_pos h0]
      obtain ⟨h1, h2, h3⟩ := pages_ok hm k h0
      rw [e] at h
      rw [e]
      refine ⟨?_, ?_, made_wr h3 _ _⟩
      · rw [(wr_ok h).2, over_succ, ← h1]; rfl
      · rw [(wr_ok h).2]; exact h2
    · have e : pages s at_ G (k + 1) = pages s at_ G k := by
        conv => lhs; unfold pages
        rw [if_neg h0]
      rw [e] at h
      exact absurd h h0
/-- What Writes leave, with or without an error: 'lasts' as it was, all that is loose at these sectors. -/
theorem pages_loose {s : St} {at_ : Nat} {G : Nat → Nat → Nat} : ∀ k, (pages s at_ G k).1.lasts = s.lasts ∧ ∀ x ∈ (pages s at_ G k).1.lo, x ∈ s.lo ∨ (at_ ≤ x.1 ∧ x.1 < at_ + k)
  | 0 => ⟨rfl, fun x hx => .inl hx⟩
  | k + 1 => by
    obtain ⟨h1, h2⟩ := pages_loose (s := s) (at_ := at_) (G := G) k
    have h2' : ∀ x ∈ (pages s at_ G k).1.lo, x ∈ s.lo ∨ (at_ ≤ x.1 ∧ x.1 < at_ + (k + 1)) := fun x hx => by
      rcases h2 x hx with h | h
      · exact .inl h
      · exact .inr ⟨h.1, by omega⟩
    unfold pages
    split
    · unfold St.wr
      split
      · refine ⟨h1, fun x hx => ?_⟩
        have hx' : x ∈ (pages s at_ G k).1.lo ++ [(at_ + k, G k)] := hx
        rcases List.mem_append.1 hx' with h | h
        · exact h2' x h
        · simp at h; subst h; exact .inr ⟨by show at_ ≤ at_ + k; omega, by show at_ + k < _; omega⟩
      · exact ⟨h1, h2'⟩
    · exact ⟨h1, h2'⟩
/-- Nothing is loose, all lasts. -/
def Still (s : St) : Prop := s.lo = [] ∧ s.lasts = s.now
theorem still_made {s : St} (h : Still s) : Made s := by
  unfold Made
  rw [h.1, h.2]
  rfl
theorem still_flush {s : St} (h : Made s) : Still s.spent.flush := ⟨rfl, by
  show lay (fun _ => 64) s.lo s.lasts s.lo.length = s.now
  exact h.symm⟩
/-- put, of a disk that is still. -/
theorem put_ok {s : St} (hs : Still s) {at_ : Nat} {f : Nat → Nat} {len : Nat} (h : (s.put at_ f len).2 = 0) : Still (s.put at_ f len).1 ∧ (s.put at_ f len).1.now = over s.now at_ (leaf f len) ((len + 63) / 64) := by
  unfold St.put at *
  simp only at *
  by_cases h0 : (pages s at_ (leaf f len) ((len + 63) / 64)).2 = 0
  · rw [if_pos h0] at *
    obtain ⟨h1, h2, h3⟩ := pages_ok (still_made hs) _ h0
    rw [fl_ok h]
    exact ⟨still_flush h3, h1⟩
  · rw [if_neg h0] at h
    exact absurd h h0
theorem put_no {s : St} (hs : Still s) {at_ : Nat} {f : Nat → Nat} {len : Nat} (h : (s.put at_ f len).2 ≠ 0) : (s.put at_ f len).1.lasts = s.now ∧ ∀ x ∈ (s.put at_ f len).1.lo, at_ ≤ x.1 ∧ x.1 < at_ + (len + 63) / 64 := by
  unfold St.put at *
  simp only at *
  obtain ⟨h1, h2⟩ := pages_loose (s := s) (at_ := at_) (G := leaf f len) ((len + 63) / 64)
  have h2' : ∀ x ∈ (pages s at_ (leaf f len) ((len + 63) / 64)).1.lo, at_ ≤ x.1 ∧ x.1 < at_ + (len + 63) / 64 := fun x hx => by
    rcases h2 x hx with h | h
    · rw [hs.1] at h; cases h
    · exact h
  by_cases h0 : (pages s at_ (leaf f len) ((len + 63) / 64)).2 = 0
  · rw [if_pos h0] at *
    rw [fl_no h]
    exact ⟨h1.trans hs.2, h2'⟩
  · rw [if_neg h0]
    exact ⟨h1.trans hs.2, h2'⟩
/-- What is loose elsewhere does not turn sector i. -/
theorem lay_out (m : Nat → Nat) (lo : List (Nat × (Nat → Nat))) (g : Nat → Nat → Nat) (i : Nat) (h : ∀ x ∈ lo, x.1 ≠ i) : ∀ k, k ≤ lo.length → lay m lo g k i = g i
  | 0, _ => rfl
  | k + 1, hk => by
    obtain ⟨x, hx⟩ : ∃ x, lo[k]? = some x := ⟨_, List.getElem?_eq_getElem (by omega)⟩
    rw [lay_succ m lo g k x hx]
    funext j
    unfold putPage
    rw [if_neg (fun e => h x (List.mem_of_getElem? hx) e.1.symm), lay_out m lo g i h k (by omega)]
/-! ### Entries -/
theorem ent0_at (gen : Nat) (f : Nat → Nat) (len j : Nat) (hj : j < 16) : ent gen f len 0 j = head16 gen len (crc f len) j := by
  show fill (head16 gen len (crc f len)) 16 j = _
  unfold fill
  rw [if_pos hj]
theorem head_gen (gen len c j : Nat) (hj : j < 4) : head16 gen len c j = four gen j := by
  unfold head16 head12 cat
  rw [if_pos (by omega), if_pos (by omega), if_pos hj]
theorem head_len (gen len c j : Nat) (hj : j < 4) : head16 gen len c (4 + j) = four len j := by
  unfold head16 head12 cat
  rw [if_pos (by omega), if_pos (by omega), if_neg (by omega), show 4 + j - 4 = j from by omega]
theorem head_crc (gen len c j : Nat) (hj : j < 4) : head16 gen len c (8 + j) = four c j := by
  unfold head16 head12 cat
  rw [if_pos (by omega), if_neg (by omega), show 8 + j - 8 = j from by omega]
theorem head_sum (gen len c j : Nat) (hj : j < 4) : head16 gen len c (12 + j) = four (crc (head12 gen len c) 12) j := by
  show cat (head12 gen len c) 12 (four (crc (head12 gen len c) 12)) (12 + j) = _
  conv => lhs; unfold cat
  rw [if_neg (by omega), show 12 + j - 12 = j from by omega]
theorem num_congr {f g : Nat → Nat} (h : ∀ i, i < 4 → f i = g i) : num f = num g := by
  unfold num
  rw [h 0 (by omega), h 1 (by omega), h 2 (by omega), h 3 (by omega)]
theorem ent0_congr (gen : Nat) (f g : Nat → Nat) (len : Nat) (h : ∀ i, i < len → f i = g i) : ent gen f len 0 = ent gen g len 0 := by
  show fill (head16 gen len (crc f len)) 16 = fill (head16 gen len (crc g len)) 16
  rw [crc_congr f g len h]
theorem isEnt_parts {s : St} {at_ : Nat} {e : Int} {gen : Nat} (h : isEnt s at_ e gen = true) : fit s.n at_ e (lenAt s at_) = true ∧ (∀ j, j < 64 → s.now at_ j = ent gen (runs s (at_ + 1)) (lenAt s at_) 0 j) := by
  unfold isEnt at h
  rw [Bool.and_eq_true, Bool.and_eq_true] at h
  exact ⟨h.1, (eqB_iff _ _ _).1 h.2.2⟩
/-- The head and the pages of an entry: it is one. -/
theorem ent_there {s : St} {at_ gen len : Nat} {e : Int} {f : Nat → Nat} (hl : len < 4294967296) (hh : ∀ j, j < 64 → s.now at_ j = ent gen f len 0 j) (hb : ∀ i, i < (len + 63) / 64 → ∀ j, j < 64 → s.now (at_ + 1 + i) j = ent gen f len (i + 1) j)
    (hf : fit s.n at_ e len = true) : isEnt s at_ e gen = true ∧ lenAt s at_ = len ∧ ∀ j, j < len → runs s (at_ + 1) j = f j := by
  have h1 : lenAt s at_ = len := by
    unfold lenAt
    rw [← num_four len hl]
    refine num_congr fun i hi => ?_
    rw [hh (4 + i) (by omega), ent0_at _ _ _ _ (by omega), head_len _ _ _ _ hi]
  have h2 : ∀ j, j < (len + 63) / 64 * 64 → runs s (at_ + 1) j = if j < len then f j else 0 := fun j hj => by
    unfold runs
    rw [hb (j / 64) (by omega) (j % 64) (Nat.mod_lt _ (by omega))]
    show fill (fun q => f (j / 64 * 64 + q)) (len - j / 64 * 64) (j % 64) = _
    unfold fill
    by_cases hl2 : j < len
    · rw [if_pos (by omega), if_pos hl2]
      show f (j / 64 * 64 + j % 64) = f j
      rw [show j / 64 * 64 + j % 64 = j from by omega]
    · rw [if_neg (by omega), if_neg hl2]
  have h3 : ∀ j, j < len → runs s (at_ + 1) j = f j := fun j hj => by rw [h2 j (by omega), if_pos hj]
  refine ⟨?_, h1, h3⟩
  unfold isEnt
  rw [h1, hf, Bool.true_and, Bool.and_eq_true]
  refine ⟨(allZ_iff _ _).2 fun i hi => ?_, (eqB_iff _ _ _).2 fun i hi => ?_⟩
  · show runs s (at_ + 1) (len + i) = 0
    rw [h2 _ (by omega), if_neg (by omega)]
  · rw [hh i hi, ent0_congr gen f (runs s (at_ + 1)) len (fun j hj => (h3 j hj).symm)]
theorem four_inj {a b : Nat} (ha : a < 4294967296) (hb : b < 4294967296) (h : ∀ i, i < 4 → four a i = four b i) : a = b := by
  rw [← num_four a ha, ← num_four b hb]
  exact num_congr h
/-- An entry of another generation is none. -/
theorem ent_other {s : St} {at_ gen gen' len : Nat} {e : Int} {f : Nat → Nat} (hg : gen < 4294967296) (hg' : gen' < 4294967296) (hne : gen ≠ gen') (hh : ∀ j, j < 64 → s.now at_ j = ent gen f len 0 j) : isEnt s at_ e gen' = false := by
  cases h : isEnt s at_ e gen' with
  | false => rfl
  | true =>
    exfalso
    apply hne
    refine four_inj hg hg' fun i hi => ?_
    have := (isEnt_parts h).2 i (by omega)
    rw [hh i (by omega), ent0_at _ _ _ _ (by omega), ent0_at _ _ _ _ (by omega), head_gen _ _ _ _ hi, head_gen _ _ _ _ hi] at this
    exact this
theorem four_zero {a : Nat} (ha : a < 4294967296) (h : ∀ i, i < 4 → four a i = 0) : a = 0 :=
  four_inj ha (by omega) fun i hi => by rw [h i hi]; unfold four; simp
theorem zero_sum : crc (head12 0 0 0) 12 ≠ 0 := by
  rw [← beq_eq_false_iff_ne]
  kernel_rfl
theorem crc_none (f : Nat → Nat) : crc f 0 = 0 := by
  unfold crc crcUpto
  decide
/-- A sector that is 0 is no entry. -/
theorem ent_zero {s : St} {at_ gen : Nat} {e : Int} (hg : gen < 4294967296) (hz : ∀ j, j < 64 → s.now at_ j = 0) : isEnt s at_ e gen = false := by
  cases h : isEnt s at_ e gen with
  | false => rfl
  | true =>
    exfalso
    have hp := (isEnt_parts h).2
    have hl : lenAt s at_ = 0 := by
      unfold lenAt
      rw [num_congr (g := fun _ => 0) (fun i hi => hz (4 + i) (by omega))]
      rfl
    rw [hl] at hp
    have hz2 : ∀ j, j < 16 → head16 gen 0 (crc (runs s (at_ + 1)) 0) j = 0 := fun j hj => by
      rw [← ent0_at _ _ _ _ hj, ← hp j (by omega), hz j (by omega)]
    rw [crc_none] at hz2
    have hg0 : gen = 0 := four_zero hg fun i hi => by rw [← head_gen gen 0 0 i hi]; exact hz2 i (by omega)
    subst hg0
    refine zero_sum (four_zero (crc_lt _ _ (head12_lt 0 0 0)) fun i hi => ?_)
    rw [← head_sum 0 0 0 i hi]
    exact hz2 _ (by omega)
theorem found_one {s : St} {at_ : Nat} {e : Int} {gen K K' : Nat} (h : Found s at_ e gen K) (h' : Found s at_ e gen K') : K = K' := by
  rcases Nat.lt_trichotomy K K' with h1 | h1 | h1
  · have := h'.1 K h1; rw [h.2] at this; cases this
  · exact h1
  · have := h.1 K' h1; rw [h'.2] at this; cases this
end Go.Proofs.Ytbecchoidglaeaa
/- What Lay leaves on a disk that is still, with power or without, and behind a crash. -/
namespace Go.Proofs.Ytbecchoidglaeaa
open Go.RowKit
set_option maxRecDepth 100000

/-- Power, no fuse. -/
def Live (s : St) : Prop := s.fused = false ∧ s.down = false
theorem Live.power {s : St} (h : Live s) : s.power = true := by unfold St.power; rw [h.1, h.2]; rfl
theorem Live.spent {s : St} (h : Live s) : Live s.spent := ⟨h.1, by show (!s.power) = false; rw [h.power]; rfl⟩
theorem Live.wr {s : St} (h : Live s) (i : Nat) (p : Nat → Nat) : (s.wr i p).2 = 0 ∧ Live (s.wr i p).1 := by
  unfold St.wr
  rw [h.power]
  exact ⟨rfl, h.spent⟩
theorem Live.fl {s : St} (h : Live s) : s.fl.2 = 0 ∧ Live s.fl.1 := by
  unfold St.fl
  rw [h.power]
  exact ⟨rfl, h.spent⟩
theorem Live.pages {s : St} (h : Live s) (at_ : Nat) (G : Nat → Nat → Nat) : ∀ k, (pages s at_ G k).2 = 0 ∧ Live (pages s at_ G k).1
  | 0 => ⟨rfl, h⟩
  | k + 1 => by
    obtain ⟨h1, h2⟩ := Live.pages h at_ G k
    unfold Go.Proofs.Ytbecchoidglaeaa.pages
    rw [if_pos h1]
    exact h2.wr _ _
theorem Live.put {s : St} (h : Live s) (at_ : Nat) (f : Nat → Nat) (len : Nat) : (s.put at_ f len).2 = 0 ∧ Live (s.put at_ f len).1 := by
  obtain ⟨h1, h2⟩ := h.pages at_ (leaf f len) ((len + 63) / 64)
  rw [put_done h1]
  exact h2.fl
theorem Live.lay {s : St} (h : Live s) (at_ gen : Nat) (f : Nat → Nat) (len : Nat) : (s.lay at_ (ent gen f len) (cnt len)).2 = 0 ∧ Live (s.lay at_ (ent gen f len) (cnt len)).1 := by
  obtain ⟨h1, h2⟩ := h.put (at_ + 1) f len
  rw [lay_ok1 h1]
  exact h2.put _ _ _
theorem lay_n (s : St) (at_ gen : Nat) (f : Nat → Nat) (len : Nat) : (s.lay at_ (ent gen f len) (cnt len)).1.n = s.n := by
  rw [lay_puts]
  split
  · rw [put_n, put_n]
  · rw [put_n]
theorem lay_cases (s : St) (at_ gen : Nat) (f : Nat → Nat) (len : Nat) : (s.lay at_ (ent gen f len) (cnt len)).2 = 0 ∨ (s.lay at_ (ent gen f len) (cnt len)).2 = 4 := by
  rw [lay_puts]
  split
  · exact put_cases _ _ _ _
  · exact put_cases _ _ _ _
/-- The pages of an entry, from sector at_ on; the first has but its first m bytes. -/
def Pages (g : Nat → Nat → Nat) (at_ : Nat) (gen : Nat) (f : Nat → Nat) (len m : Nat) : Prop :=
  (∀ j, j < 64 → g at_ j = if j < m then ent gen f len 0 j else 0) ∧ ∀ i, i < (len + 63) / 64 → ∀ j, j < 64 → g (at_ + 1 + i) j = ent gen f len (i + 1) j
theorem leaf_at (gen : Nat) (f : Nat → Nat) (len i j : Nat) (hj : j < 64) : leaf f len i j = ent gen f len (i + 1) j := by
  rw [leaf_ent gen f len]
  show fill (ent gen f len (i + 1)) 64 j = _
  unfold fill
  rw [if_pos hj]
theorem leaf_one (p : Nat → Nat) (j : Nat) (hj : j < 64) : leaf p 64 0 j = p j := by
  unfold leaf fill
  rw [if_pos (by omega)]
  show p (0 * 64 + j) = p j
  rw [Nat.zero_mul, Nat.zero_add]
theorem over_body (g : Nat → Nat → Nat) (at_ gen : Nat) (f : Nat → Nat) (len : Nat) :
    (∀ i, i ≤ at_ ∨ at_ + cnt len ≤ i → over g (at_ + 1) (leaf f len) ((len + 63) / 64) i = g i) ∧ ∀ i, i < (len + 63) / 64 → ∀ j, j < 64 → over g (at_ + 1) (leaf f len) ((len + 63) / 64) (at_ + 1 + i) j = ent gen f len (i + 1) j := by
  refine ⟨fun i hi => ?_, fun i hi j hj => ?_⟩
  · funext j
    unfold over
    unfold cnt at hi
    rw [if_neg (by omega)]
  · unfold over
    rw [if_pos ⟨by omega, by omega, hj⟩, show at_ + 1 + i - (at_ + 1) = i from by omega]
    exact leaf_at gen f len i j hj
/-- What Lay leaves on a disk that is still, where nothing fails. -/
theorem lay_done {s : St} (hs : Still s) {at_ gen : Nat} {f : Nat → Nat} {len : Nat} (h : (s.lay at_ (ent gen f len) (cnt len)).2 = 0) :
    Still (s.lay at_ (ent gen f len) (cnt len)).1 ∧ (∀ i, i < at_ ∨ at_ + cnt len ≤ i → (s.lay at_ (ent gen f len) (cnt len)).1.now i = s.now i) ∧ Pages (s.lay at_ (ent gen f len) (cnt len)).1.now at_ gen f len 64 := by
  have h1 : (s.put (at_ + 1) f len).2 = 0 := by
    rcases put_cases s (at_ + 1) f len with h1 | h1
    · exact h1
    · rw [lay_bad1 h1] at h; omega
  rw [lay_ok1 h1] at h ⊢
  obtain ⟨s1, n1⟩ := put_ok hs h1
  obtain ⟨s2, n2⟩ := put_ok s1 h
  obtain ⟨o1, o2⟩ := over_body s.now at_ gen f len
  have hc : 1 ≤ cnt len := by unfold cnt; omega
  have n3 : ∀ i, i ≠ at_ → ((s.put (at_ + 1) f len).1.put at_ (ent gen f len 0) 64).1.now i = over s.now (at_ + 1) (leaf f len) ((len + 63) / 64) i := fun i hi => by
    rw [n2, n1]
    funext j
    conv => lhs; unfold over
    rw [if_neg (by omega)]
    rfl
  refine ⟨s2, fun i hi => ?_, fun j hj => ?_, fun i hi j hj => ?_⟩
  · rw [n3 i (by omega), o1 i (by omega)]
  · rw [n2, if_pos hj]
    unfold over
    rw [if_pos ⟨by omega, by omega, hj⟩, Nat.sub_self]
    exact leaf_one _ j hj
  · rw [n3 _ (by omega)]
    exact o2 i hi j hj
/-- What is there behind a crash, whatever failed. -/
theorem lay_torn {s : St} (hs : Still s) {at_ gen : Nat} {f : Nat → Nat} {len : Nat} (hz : ∀ j, j < 64 → s.now at_ j = 0) (keep : Nat) (torn k : Int) :
    (∀ i, i < at_ ∨ at_ + cnt len ≤ i → ((s.lay at_ (ent gen f len) (cnt len)).1.crash keep torn k).now i = s.now i) ∧
    ((∀ j, j < 64 → ((s.lay at_ (ent gen f len) (cnt len)).1.crash keep torn k).now at_ j = 0) ∨ ∃ m, Pages ((s.lay at_ (ent gen f len) (cnt len)).1.crash keep torn k).now at_ gen f len m) ∧
    ((s.lay at_ (ent gen f len) (cnt len)).2 = 0 → Pages ((s.lay at_ (ent gen f len) (cnt len)).1.crash keep torn k).now at_ gen f len 64) := by
  have hc : 1 ≤ cnt len := by unfold cnt; omega
  by_cases h0 : (s.lay at_ (ent gen f len) (cnt len)).2 = 0
  · obtain ⟨h1, h2, h3⟩ := lay_done hs h0
    have e : ((s.lay at_ (ent gen f len) (cnt len)).1.crash keep torn k).now = (s.lay at_ (ent gen f len) (cnt len)).1.now := by
      show lay _ _ _ _ = _
      rw [h1.1, ← h1.2]
      rfl
    rw [e]
    exact ⟨h2, .inr ⟨64, h3⟩, fun _ => h3⟩
  · rcases put_cases s (at_ + 1) f len with h1 | h1
    · rw [lay_ok1 h1] at h0 ⊢
      obtain ⟨s1, n1⟩ := put_ok hs h1
      obtain ⟨o1, o2⟩ := over_body s.now at_ gen f len
      generalize (s.put (at_ + 1) f len).1 = u at *
      rw [put_head] at h0 ⊢
      by_cases hw : (u.wr at_ (fill (ent gen f len 0) 64)).2 = 0
      · rw [if_pos hw] at h0 ⊢
        have h0' := h0
        rw [(wr_ok hw).2] at h0'
        rw [fl_no h0, (wr_ok hw).2]
        have e : (((u.spent.write at_ (fill (ent gen f len 0) 64)).spent).crash keep torn k).now = putPage u.now at_ (lands 0 keep torn k) (fill (ent gen f len 0) 64) := by
          show lay (fun i => lands i keep torn k) (u.lo ++ [(at_, fill (ent gen f len 0) 64)]) u.lasts (u.lo ++ [(at_, fill (ent gen f len 0) 64)]).length = _
          rw [s1.1, s1.2]
          rfl
        rw [e, n1]
        have hm := lands_le 0 keep torn k
        generalize lands 0 keep torn k = m at *
        refine ⟨fun i hi => ?_, .inr ⟨m, fun j hj => ?_, fun i hi j hj => ?_⟩, fun h => absurd h h0'⟩
        · funext j
          unfold putPage
          rw [if_neg (by omega), o1 i (by omega)]
        · unfold putPage
          by_cases hjm : j < m
          · rw [if_pos ⟨rfl, hjm⟩, if_pos hjm]
            unfold fill
            rw [if_pos hj]
          · rw [if_neg (fun h => hjm h.2), if_neg hjm, o1 at_ (by omega), hz j hj]
        · unfold putPage
          rw [if_neg (by omega)]
          exact o2 i hi j hj
      · rw [if_neg hw] at h0 ⊢
        rw [wr_no hw]
        have e : (u.spent.crash keep torn k).now = u.now := by
          show lay (fun i => lands i keep torn k) u.lo u.lasts u.lo.length = _
          rw [s1.1, s1.2]
          rfl
        rw [e, n1]
        exact ⟨fun i hi => o1 i (by omega), .inl fun j hj => by rw [o1 at_ (by omega), hz j hj], fun h => absurd h h0⟩
    · rw [lay_bad1 h1] at h0 ⊢
      obtain ⟨l1, l2⟩ := put_no hs h0
      have e : ∀ i, i ≤ at_ ∨ at_ + cnt len ≤ i → ((s.put (at_ + 1) f len).1.crash keep torn k).now i = s.now i := fun i hi => by
        show lay (fun i => lands i keep torn k) (s.put (at_ + 1) f len).1.lo (s.put (at_ + 1) f len).1.lasts (s.put (at_ + 1) f len).1.lo.length i = _
        rw [lay_out _ _ _ i (fun x hx => by have := l2 x hx; unfold cnt at hi; omega) _ (Nat.le_refl _), l1]
      exact ⟨fun i hi => e i (by omega), .inl fun j hj => by rw [e at_ (by omega), hz j hj], fun h => absurd h h0⟩
theorem five_sum : crc (head12 5 0 0) 12 ≠ 0 := by
  rw [← beq_eq_false_iff_ne]
  kernel_rfl
theorem five_sum2 : crc (head12 5 256 0) 12 ≠ 0 := by
  rw [← beq_eq_false_iff_ne]
  kernel_rfl
/-- A torn head is none, or the whole. -/
theorem torn_whole {s : St} {at_ len m : Nat} {e : Int} {f : Nat → Nat} (hl : len ≤ 400) (hby : Byt s) (h : Pages s.now at_ 5 f len m) (hen : isEnt s at_ e 5 = true) : Pages s.now at_ 5 f len 64 := by
  refine ⟨fun j hj => ?_, h.2⟩
  rw [if_pos hj]
  by_cases hm : 16 ≤ m
  · rw [h.1 j hj]
    by_cases h2 : j < m
    · rw [if_pos h2]
    · rw [if_neg h2]
      show 0 = fill (head16 5 len (crc f len)) 16 j
      unfold fill
      rw [if_neg (by omega)]
  · have hp := (isEnt_parts hen).2
    have hfit := (fit_iff _ _ _ _).1 (isEnt_parts hen).1
    have hz : ∀ q, q < 16 → m ≤ q → head16 5 (lenAt s at_) (crc (runs s (at_ + 1)) (lenAt s at_)) q = 0 := fun q hq hq2 => by
      rw [← ent0_at _ _ _ _ hq, ← hp q (by omega), h.1 q (by omega), if_neg (by omega)]
    by_cases hm8 : 8 ≤ m
    · -- the length is there, so are the bytes: the sum is the right one
      have hlen : lenAt s at_ = len := by
        unfold lenAt
        rw [← num_four len (by omega)]
        refine num_congr fun i hi => ?_
        rw [h.1 (4 + i) (by omega), if_pos (by omega), ent0_at _ _ _ _ (by omega), head_len _ _ _ _ hi]
      have hr : ∀ q, q < len → runs s (at_ + 1) q = f q := fun q hq => by
        unfold runs
        rw [h.2 (q / 64) (by omega) (q % 64) (Nat.mod_lt _ (by omega))]
        show fill (fun x => f (q / 64 * 64 + x)) (len - q / 64 * 64) (q % 64) = _
        unfold fill
        rw [if_pos (by omega)]
        show f (q / 64 * 64 + q % 64) = f q
        rw [show q / 64 * 64 + q % 64 = q from by omega]
      rw [hp j hj, hlen, ent0_congr 5 _ f len hr]
    · exfalso
      by_cases hm4 : m < 4
      · have := hz 3 (by omega) (by omega)
        rw [head_gen _ _ _ _ (by omega)] at this
        revert this
        decide
      · have hb : ∀ i, i < 4 → s.now at_ (4 + i) = if 4 + i < m then four len i else 0 := fun i hi => by
          rw [h.1 (4 + i) (by omega)]
          split
          · rw [ent0_at _ _ _ _ (by omega), head_len _ _ _ _ hi]
          · rfl
        have h7 : s.now at_ (4 + 3) = 0 := by rw [hb 3 (by omega), if_neg (by omega)]
        have h4 : s.now at_ (4 + 0) = 0 := by
          rw [hb 0 (by omega)]
          split
          · unfold four; simp; omega
          · rfl
        have h5 : s.now at_ (4 + 1) = 0 := by
          rw [hb 1 (by omega)]
          split
          · unfold four; simp; omega
          · rfl
        have h6 : s.now at_ (4 + 2) = 0 ∨ s.now at_ (4 + 2) = 1 := by
          rw [hb 2 (by omega)]
          split
          · unfold four; simp; omega
          · exact .inl rfl
        have hn : lenAt s at_ = 0 ∨ lenAt s at_ = 256 := by
          have : lenAt s at_ = s.now at_ (4 + 0) * 16777216 + s.now at_ (4 + 1) * 65536 + s.now at_ (4 + 2) * 256 + s.now at_ (4 + 3) := rfl
          rcases h6 with h6 | h6
          · left; rw [this, h4, h5, h6, h7]
          · right; rw [this, h4, h5, h6, h7]
        have hcn : cnt (lenAt s at_) = 1 + (lenAt s at_ + 63) / 64 := rfl
        have hbr : ∀ i, i < lenAt s at_ → runs s (at_ + 1) i < 256 := fun i hi => hby _ (by omega) _ (Nat.mod_lt _ (by omega))
        have hc : crc (runs s (at_ + 1)) (lenAt s at_) = 0 := four_zero (crc_lt _ _ hbr) fun i hi => by
          have := hz (8 + i) (by omega) (by omega)
          rwa [head_crc _ _ _ _ hi] at this
        have hsum : crc (head12 5 (lenAt s at_) 0) 12 = 0 := four_zero (crc_lt _ _ (head12_lt _ _ _)) fun i hi => by
          have := hz (12 + i) (by omega) (by omega)
          rwa [head_sum _ _ _ _ hi, hc] at this
        rcases hn with hn | hn
        · rw [hn] at hsum; exact five_sum hsum
        · rw [hn] at hsum; exact five_sum2 hsum
theorem Pages.ent {s : St} {at_ gen len : Nat} {e : Int} {f : Nat → Nat} (h : Pages s.now at_ gen f len 64) (hl : len < 4294967296) (hf : fit s.n at_ e len = true) : isEnt s at_ e gen = true ∧ lenAt s at_ = len ∧ ∀ j, j < len → runs s (at_ + 1) j = f j :=
  ent_there hl (fun j hj => by rw [h.1 j hj, if_pos hj]) h.2 hf
end Go.Proofs.Ytbecchoidglaeaa
