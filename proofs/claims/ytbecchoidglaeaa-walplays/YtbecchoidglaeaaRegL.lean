/- The program's region: put and Lay. -/
import Derived.Test.YtbecchoidglaeaaGRegS
import Derived.Test.YtbecchoidglaeaaGEnt
namespace Go.Proofs.Ytbecchoidglaeaa
open Go.RowKit
set_option maxRecDepth 100000

theorem Step.refl (F : Nat → Prop) (w : World) : Step F F w w := ⟨Keeps.refl _ _, fun _ h => .inl h⟩
theorem Step.trans {F F1 F2 : Nat → Prop} {w w1 w2 : World} (h : Step F F1 w w1) (k : Step F1 F2 w1 w2) : Step F F2 w w2 := by
  have hs := h.1.size
  refine ⟨h.1.trans k.1 (fun b hb hf => by rcases h.2 b hf with h1 | h1; exact h1; omega), fun b hb => ?_⟩
  rcases k.2 b hb with h1 | h1
  · exact h.2 b h1
  · exact .inr (by omega)
theorem Step.of_below {F : Nat → Prop} {w w' : World} (h : Below w.heap.size w w') : Step F F w w' := ⟨Keeps.of_below h _, fun _ hb => .inl hb⟩

/-- The pages G 0 .. G (n - 1) are written from sector at_ on, up to the first error. -/
def pages (s : St) (at_ : Nat) (G : Nat → Nat → Nat) : Nat → St × Nat
  | 0 => (s, 0)
  | n + 1 => if (pages s at_ G n).2 = 0 then (pages s at_ G n).1.wr (at_ + n) (G n) else pages s at_ G n
theorem pages_n (s : St) (at_ : Nat) (G : Nat → Nat → Nat) : ∀ n, (pages s at_ G n).1.n = s.n
  | 0 => rfl
  | n + 1 => by
    unfold pages
    split
    · rw [wr_n, pages_n s at_ G n]
    · exact pages_n s at_ G n
theorem pages_lo (s : St) (at_ : Nat) (G : Nat → Nat → Nat) : ∀ n, (pages s at_ G n).1.lo.length ≤ s.lo.length + n
  | 0 => Nat.le_refl _
  | n + 1 => by
    have ih := pages_lo s at_ G n
    unfold pages
    split
    · have := wr_lo (pages s at_ G n).1 (at_ + n) (G n); omega
    · omega
theorem pages_stuck (s : St) (at_ : Nat) (G : Nat → Nat → Nat) (k : Nat) (h : (pages s at_ G k).2 ≠ 0) : ∀ n, k ≤ n → pages s at_ G n = pages s at_ G k
  | 0, hk => by rw [show k = 0 from by omega]
  | n + 1, hk => by
    by_cases e : k = n + 1
    · rw [e]
    · have ih := pages_stuck s at_ G k h n (by omega)
      conv => lhs; unfold pages
      rw [ih, if_neg h]
theorem bodies_pages (s : St) (at_ : Nat) (F : Nat → Nat → Nat) : ∀ n, bodies s at_ F n = pages s (at_ + 1) (fun i => fill (F (i + 1)) 64) n
  | 0 => rfl
  | n + 1 => by
    unfold bodies pages
    rw [bodies_pages s at_ F n, show at_ + (n + 1) = at_ + 1 + n from by omega]
/-- Page i of the bytes f. -/
def leaf (f : Nat → Nat) (len : Nat) (i : Nat) : Nat → Nat := fill (fun j => f (i * 64 + j)) (min 64 (len - i * 64))
/-- put: the pages of the bytes f, then Flush; up to the first error. -/
def St.put (s : St) (at_ : Nat) (f : Nat → Nat) (len : Nat) : St × Nat :=
  let r := pages s at_ (leaf f len) ((len + 63) / 64)
  if r.2 = 0 then r.1.fl else r
theorem put_of_stuck {s : St} {at_ len k : Nat} {f : Nat → Nat} (hk : k ≤ (len + 63) / 64) (h : (pages s at_ (leaf f len) k).2 ≠ 0) : s.put at_ f len = pages s at_ (leaf f len) k := by
  unfold St.put
  rw [pages_stuck s at_ (leaf f len) k h _ hk]
  simp only [if_neg h]
theorem put_done {s : St} {at_ len : Nat} {f : Nat → Nat} (h : (pages s at_ (leaf f len) ((len + 63) / 64)).2 = 0) : s.put at_ f len = (pages s at_ (leaf f len) ((len + 63) / 64)).1.fl := by
  unfold St.put
  simp only [if_pos h]
section
variable {w : World} {D : Nat} {s : St} {F : Nat → Prop}
/-- Write, of either kind. -/
theorem disk_wr (h : Disk w D s F) (i : Nat) (hi : i < s.n) (a : Option Addr) (len cap : Nat) (f : Nat → Nat) (hl : len ≤ 64) (hm : s.lo.length < 1000000) (hr : Rw w a len f) (ha : ∀ x, a = some x → 0 < len → x.block ≠ D) :
    Calls Try.prog 28 #[.pointer (some ⟨D, 0, none⟩), .int .i64 (i : Int), .slice a len cap] w fun e w' =>
      e = .returned (.int .i64 ((s.wr i (fill f len)).2 : Int)) ∧ ∃ F', Disk w' D (s.wr i (fill f len)).1 F' ∧ Step F F' w w' := by
  unfold St.wr
  cases hp : s.power with
  | true => simpa using disk_write h (i : Int) (by omega) (by omega) a len cap f hl hp hm hr ha
  | false => simpa using disk_write_down h (i : Int) (by omega) (by omega) a len cap hl hp
/-- Flush, of either kind. -/
theorem disk_fl (h : Disk w D s F) : Calls Try.prog 29 #[.pointer (some ⟨D, 0, none⟩)] w fun e w' =>
      e = .returned (.int .i64 (s.fl.2 : Int)) ∧ ∃ F', Disk w' D s.fl.1 F' ∧ Step F F' w w' := by
  unfold St.fl
  cases hp : s.power with
  | true => simpa using disk_flush h hp
  | false => simpa using disk_flush_down h hp
end
/-- put is under way: k pages are written. -/
def PutAt (w wq : World) (D : Nat) (s : St) (F : Nat → Prop) (at_ : Nat) (f : Nat → Nat) (len k : Nat) : Prop :=
  (pages s at_ (leaf f len) k).2 = 0 ∧ ∃ F', Disk wq D (pages s at_ (leaf f len) k).1 F' ∧ Step F F' w wq
theorem wr_cases (s : St) (i : Nat) (p : Nat → Nat) : (s.wr i p).2 = 0 ∨ (s.wr i p).2 = 4 := by unfold St.wr; split; exact .inl rfl; exact .inr rfl
theorem fl_cases (s : St) : s.fl.2 = 0 ∨ s.fl.2 = 4 := by unfold St.fl; split; exact .inl rfl; exact .inr rfl
theorem leaf_eq (f : Nat → Nat) (len k m : Nat) (h : m = min 64 (len - k * 64)) : fill (fun j => f (k * 64 + j)) m = leaf f len k := by subst h; rfl
theorem PutAt.step {w wq wr : World} {D : Nat} {s : St} {F F1 F2 : Nat → Prop} {at_ len k : Nat} {f : Nat → Nat} (h0 : (pages s at_ (leaf f len) k).2 = 0) (hst : Step F F1 w wq) (p : Nat → Nat) (hp : p = leaf f len k) (h2 : ((pages s at_ (leaf f len) k).1.wr (at_ + k) p).2 = 0)
    (hd : Disk wr D ((pages s at_ (leaf f len) k).1.wr (at_ + k) p).1 F2) (hs2 : Step F1 F2 wq wr) : PutAt w wr D s F at_ f len (k + 1) := by
  subst hp
  have e : pages s at_ (leaf f len) (k + 1) = (pages s at_ (leaf f len) k).1.wr (at_ + k) (leaf f len k) := by
    conv => lhs; unfold pages
    rw [if_pos h0]
  unfold PutAt
  rw [e]
  exact ⟨h2, F2, hd, hst.trans hs2⟩
theorem put_bad {w wq wr : World} {D : Nat} {s : St} {F F1 F2 : Nat → Prop} {at_ len k : Nat} {f : Nat → Nat} (hk : k + 1 ≤ (len + 63) / 64) (h0 : (pages s at_ (leaf f len) k).2 = 0) (hst : Step F F1 w wq) (p : Nat → Nat) (hp : p = leaf f len k) (h2 : ((pages s at_ (leaf f len) k).1.wr (at_ + k) p).2 = 4)
    (hd : Disk wr D ((pages s at_ (leaf f len) k).1.wr (at_ + k) p).1 F2) (hs2 : Step F1 F2 wq wr) :
    Ending.returned (.int .i64 4) = .returned (.int .i64 ((s.put at_ f len).2 : Int)) ∧ ∃ F', Disk wr D (s.put at_ f len).1 F' ∧ Step F F' w wr := by
  subst hp
  have e : pages s at_ (leaf f len) (k + 1) = (pages s at_ (leaf f len) k).1.wr (at_ + k) (leaf f len k) := by
    conv => lhs; unfold pages
    rw [if_pos h0]
  rw [put_of_stuck hk (by rw [e, h2]; decide), e]
  exact ⟨by rw [h2]; rfl, F2, hd, hst.trans hs2⟩
set_option maxRecDepth 100000 in
set_option maxHeartbeats 1600000 in
theorem put_some {w : World} {D : Nat} {s : St} {F : Nat → Prop} (h : Disk w D s F) (at_ b off len cap : Nat) (f : Nat → Nat) (hl : len ≤ 100000) (hcap : len ≤ cap) (hs : s.n ≤ 1024) (hlo : s.lo.length < 900000) (hroom : at_ + (len + 63) / 64 ≤ s.n)
    (hc : ∀ i, i < len → w.cell? ⟨b, off + i, none⟩ = some (.int .u8 (f i : Int))) (hb : ¬ F b) (hb2 : b < w.heap.size) :
    Calls Try.prog 69 #[.pointer (some ⟨D, 0, none⟩), .int .i64 (at_ : Int), .slice (some ⟨b, off, none⟩) len cap] w fun e w' =>
      e = .returned (.int .i64 ((s.put at_ f len).2 : Int)) ∧ ∃ F', Disk w' D (s.put at_ f len).1 F' ∧ Step F F' w w' := by
  have HC := hide hc
  have H := hide h
  have HL := hide (And.intro hl (And.intro hcap (And.intro hlo hroom)))
  have HB := hide hb
  clear h hc hl hcap hlo hroom hb
  go_enter Try.func69, Try.ntmps69
  go_wp2
  go_loopw [1, 2] (fun av bv wq => ∃ k q r c x o : Nat, Hid (k ≤ (len + 63) / 64 ∧ q = min len (k * 64) ∧ r = len - q ∧ c = cap - q ∧ x = at_ + k ∧ (0 < r → o = off + q)) ∧ av = .int .i64 (x : Int) ∧ bv = .slice (some ⟨b, o, none⟩) r c ∧ Hid (PutAt w wq D s F at_ f len k)) (fun av _ _ => at_ + (len + 63) / 64 - (intOf av).toNat)
  case atStart => exact ⟨0, 0, len, cap, at_, off, ⟨by omega, by omega, by omega, by omega, by omega, fun _ => by omega⟩, rfl, rfl, rfl, F, H.out, Step.refl _ _⟩
  case round =>
    obtain ⟨k, q, r, c, x, o, HK, rfl, rfl, hp⟩ := hrel
    obtain ⟨hk, hq, hr, hcc, hx, ho⟩ := HK.out
    obtain ⟨hl, hcap, hlo, hroom⟩ := HL.out
    have hx1 : (x : Int) ≤ 1024 := by omega
    by_cases hlt : (0 : Int) < (r : Int)
    · have hqk : q = k * 64 := by omega
      obtain rfl : o = off + q := ho (by omega)
      clear ho
      obtain ⟨F1, hd, hst⟩ := hp.out.2
      have HOK := hide hp.out.1
      have HN1 := hide (pages_n s at_ (leaf f len) k)
      have HL1 := hide (pages_lo s at_ (leaf f len) k)
      have HST := hide hst
      have HD := hide hd
      have hD := hd.D
      have hbD : b ≠ D := fun e => by
        rcases hst.2 D hD.1 with h1 | h1
        · exact HB.out (e ▸ h1)
        · omega
      have HBD := hide hbD
      have HROW : Hid (∀ m, m ≤ r → Rw wr (some ⟨b, off + q, none⟩) m (fun j => f (k * 64 + j))) := fun m hm => ⟨by unfold maxLen; omega, fun _ => ⟨b, off + q, rfl, fun j hj => by
        rw [Nat.add_assoc, hst.1.cell _ hb2 HB.out, ← hqk]
        exact HC.out (q + j) (by omega)⟩⟩
      have HQK := hide hqk
      have hrc : (r : Int) ≤ (c : Int) := by omega
      have hr0 : (r : Int) ≤ 100000 := by omega
      clear hst hd hD hbD hqk hp hk hq hr hcc hx hl hcap hlo hroom
      by_cases h64 : (r : Int) ≤ 64
      · go_wp2_with fail
        refine (disk_wr HD.out x (by have := HN1.out; have := HQK.out; have := HL.out; have := HK.out; omega) (some ⟨b, off + q, none⟩) r c (fun j => f (k * 64 + j)) (by omega) (by have := HL1.out; have := HL.out; have := HK.out; omega) (HROW.out r (Nat.le_refl _)) (fun x hx _ => by injection hx with hx; subst hx; exact HBD.out)).mono ?_
        rintro e w2 ⟨rfl, F2, hd2, hst2⟩
        have HD2 := hide hd2
        have HST2 := hide hst2
        clear hd2 hst2
        obtain rfl : x = at_ + k := HK.out.2.2.2.2.1
        have HLF := hide (leaf_eq f len k r (by have := HK.out; have := HQK.out; omega))
        rcases wr_cases (pages s at_ (leaf f len) k).1 (at_ + k) (fill (fun j => f (k * 64 + j)) r) with h0 | h0
        · have H0 := hide h0
          rw [h0]
          clear h0
          go_wp2
          exact ⟨⟨k + 1, q + r, 0, c - r, at_ + k + 1, if c = r then off + q else off + q + r, ⟨by have := HK.out; have := HQK.out; omega, by have := HK.out; have := HQK.out; omega, by have := HK.out; have := HQK.out; omega, by have := HK.out; have := HQK.out; omega, by omega, fun h => absurd h (by omega)⟩, by go_num, by by_cases e : c = r; rw [if_pos e, if_pos e]; rw [if_neg e, if_neg e], PutAt.step HOK.out HST.out _ HLF.out H0.out HD2.out HST2.out⟩, by simp [intOf]; have := HK.out; have := HQK.out; omega⟩
        · have H0 := hide h0
          rw [h0]
          clear h0
          go_wp2
          go_ret
          exact put_bad (by have := HK.out; have := HQK.out; omega) HOK.out HST.out _ HLF.out H0.out HD2.out HST2.out
      · go_wp2_with fail
        refine (disk_wr HD.out x (by have := HN1.out; have := HQK.out; have := HL.out; have := HK.out; omega) (some ⟨b, off + q, none⟩) 64 c (fun j => f (k * 64 + j)) (by omega) (by have := HL1.out; have := HL.out; have := HK.out; omega) (HROW.out 64 (by omega)) (fun x hx _ => by injection hx with hx; subst hx; exact HBD.out)).mono ?_
        rintro e w2 ⟨rfl, F2, hd2, hst2⟩
        have HD2 := hide hd2
        have HST2 := hide hst2
        clear hd2 hst2
        obtain rfl : x = at_ + k := HK.out.2.2.2.2.1
        have HLF := hide (leaf_eq f len k 64 (by have := HK.out; have := HQK.out; omega))
        rcases wr_cases (pages s at_ (leaf f len) k).1 (at_ + k) (fill (fun j => f (k * 64 + j)) 64) with h0 | h0
        · have H0 := hide h0
          rw [h0]
          clear h0
          go_wp2
          exact ⟨⟨k + 1, q + 64, r - 64, c - 64, at_ + k + 1, _, ⟨by have := HK.out; have := HQK.out; omega, by have := HK.out; have := HQK.out; omega, by have := HK.out; have := HQK.out; omega, by have := HK.out; have := HQK.out; omega, by omega, fun _ => Nat.add_assoc _ _ _⟩, by go_num, rfl, PutAt.step HOK.out HST.out _ HLF.out H0.out HD2.out HST2.out⟩, by simp [intOf]; have := HK.out; have := HQK.out; omega⟩
        · have H0 := hide h0
          rw [h0]
          clear h0
          go_wp2
          go_ret
          exact put_bad (by have := HK.out; have := HQK.out; omega) HOK.out HST.out _ HLF.out H0.out HD2.out HST2.out
    · have hkn : k = (len + 63) / 64 := by omega
      subst hkn
      obtain ⟨F1, hd, hst⟩ := hp.out.2
      have HOK := hide hp.out.1
      have HST := hide hst
      have HD := hide hd
      clear hst hd hp hk hq hr hcc hx ho hl hcap hlo hroom
      go_wp2_with fail
      refine (disk_fl HD.out).mono ?_
      rintro e w2 ⟨rfl, F2, hd2, hst2⟩
      have HD2 := hide hd2
      have HST2 := hide hst2
      clear hd2 hst2
      go_wp2
      go_ret
      rw [put_done HOK.out]
      exact ⟨rfl, F2, HD2.out, HST.out.trans HST2.out⟩
set_option maxHeartbeats 400000 in
theorem put_empty {w : World} {D : Nat} {s : St} {F : Nat → Prop} (h : Disk w D s F) (at_ : Nat) (a : Option Addr) (cap : Nat) (f : Nat → Nat) :
    Calls Try.prog 69 #[.pointer (some ⟨D, 0, none⟩), .int .i64 (at_ : Int), .slice a 0 cap] w fun e w' =>
      e = .returned (.int .i64 ((s.put at_ f 0).2 : Int)) ∧ ∃ F', Disk w' D (s.put at_ f 0).1 F' ∧ Step F F' w w' := by
  have H := hide h
  clear h
  go_enter Try.func69, Try.ntmps69
  go_wp2
  go_loopw [1, 2] (fun av bv wq => av = .int .i64 (at_ : Int) ∧ bv = .slice a 0 cap ∧ wq = w) (fun _ _ _ => 0)
  case atStart => exact ⟨rfl, rfl, rfl⟩
  case round =>
    obtain ⟨rfl, rfl, rfl⟩ := hrel
    go_wp2_with fail
    refine (disk_fl H.out).mono ?_
    rintro e w2 ⟨rfl, F2, hd2, hst2⟩
    have HD2 := hide hd2
    have HST2 := hide hst2
    clear hd2 hst2
    go_wp2
    go_ret
    exact ⟨rfl, F2, HD2.out, HST2.out⟩
theorem put_any {w : World} {D : Nat} {s : St} {F : Nat → Prop} (h : Disk w D s F) (at_ : Nat) (a : Option Addr) (len cap : Nat) (f : Nat → Nat) (hl : len ≤ 100000) (hcap : len ≤ cap) (hs : s.n ≤ 1024) (hlo : s.lo.length < 900000) (hroom : at_ + (len + 63) / 64 ≤ s.n)
    (hr : Rw w a len f) (ha : ∀ x, a = some x → 0 < len → ¬ F x.block) :
    Calls Try.prog 69 #[.pointer (some ⟨D, 0, none⟩), .int .i64 (at_ : Int), .slice a len cap] w fun e w' =>
      e = .returned (.int .i64 ((s.put at_ f len).2 : Int)) ∧ ∃ F', Disk w' D (s.put at_ f len).1 F' ∧ Step F F' w w' := by
  by_cases h0 : len = 0
  · subst h0; exact put_empty h at_ a cap f
  · obtain ⟨b, off, rfl, hc⟩ := hr.2 (by omega)
    exact put_some h at_ b off len cap f hl hcap hs hlo hroom hc (ha _ rfl (by omega)) (hr.lt _ rfl (by omega))
theorem put_cases (s : St) (at_ : Nat) (f : Nat → Nat) (len : Nat) : (s.put at_ f len).2 = 0 ∨ (s.put at_ f len).2 = 4 := by
  have hp : ∀ n, (pages s at_ (leaf f len) n).2 = 0 ∨ (pages s at_ (leaf f len) n).2 = 4 := by
    intro n
    induction n with
    | zero => exact .inl rfl
    | succ n ih =>
      unfold pages
      split
      · exact wr_cases _ _ _
      · exact ih
  unfold St.put
  simp only
  split
  · exact fl_cases _
  · exact hp _
theorem put_n (s : St) (at_ : Nat) (f : Nat → Nat) (len : Nat) : (s.put at_ f len).1.n = s.n := by
  unfold St.put
  simp only
  split
  · rw [fl_n, pages_n]
  · rw [pages_n]
theorem put_lo (s : St) (at_ : Nat) (f : Nat → Nat) (len : Nat) : (s.put at_ f len).1.lo.length ≤ s.lo.length + (len + 63) / 64 := by
  have h1 := pages_lo s at_ (leaf f len) ((len + 63) / 64)
  unfold St.put
  simp only
  split
  · have := fl_lo (pages s at_ (leaf f len) ((len + 63) / 64)).1; omega
  · exact h1
theorem leaf_ent (gen : Nat) (f : Nat → Nat) (len : Nat) : leaf f len = fun i => fill (ent gen f len (i + 1)) 64 := by
  funext i j
  show fill (fun j => f (i * 64 + j)) (min 64 (len - i * 64)) j = fill (fill (fun j => f (i * 64 + j)) (len - i * 64)) 64 j
  unfold fill
  by_cases h1 : j < 64
  · by_cases h2 : j < len - i * 64
    · rw [if_pos (by omega), if_pos h1, if_pos h2]
    · rw [if_neg (by omega), if_pos h1, if_neg h2]
  · rw [if_neg (by omega), if_neg h1]
theorem put_head (s : St) (at_ : Nat) (p : Nat → Nat) : s.put at_ p 64 = if (s.wr at_ (fill p 64)).2 = 0 then (s.wr at_ (fill p 64)).1.fl else s.wr at_ (fill p 64) := by
  have e : leaf p 64 0 = fill p 64 := by
    unfold leaf
    rw [show min 64 (64 - 0 * 64) = 64 from rfl]
    congr 1
    funext j
    rw [Nat.zero_mul, Nat.zero_add]
  have e2 : pages s at_ (leaf p 64) ((64 + 63) / 64) = s.wr at_ (fill p 64) := by
    rw [show (64 + 63) / 64 = 0 + 1 from rfl]
    simp [pages, e]
  unfold St.put
  rw [e2]
/-- Lay is two puts. -/
theorem lay_puts (s : St) (at_ gen : Nat) (f : Nat → Nat) (len : Nat) : s.lay at_ (ent gen f len) (cnt len) = if (s.put (at_ + 1) f len).2 = 0 then (s.put (at_ + 1) f len).1.put at_ (ent gen f len 0) 64 else s.put (at_ + 1) f len := by
  have e : cnt len - 1 = (len + 63) / 64 := by unfold cnt; omega
  unfold St.lay
  simp only
  rw [e, bodies_pages, ← leaf_ent gen f len]
  by_cases h : (pages s (at_ + 1) (leaf f len) ((len + 63) / 64)).2 = 0
  · rw [if_pos h, put_done h, put_head]
  · rw [if_neg h, put_of_stuck (Nat.le_refl _) h, if_neg h]
theorem lay_ok1 {s : St} {at_ gen : Nat} {f : Nat → Nat} {len : Nat} (h : (s.put (at_ + 1) f len).2 = 0) : s.lay at_ (ent gen f len) (cnt len) = (s.put (at_ + 1) f len).1.put at_ (ent gen f len 0) 64 := by rw [lay_puts, if_pos h]
theorem lay_bad1 {s : St} {at_ gen : Nat} {f : Nat → Nat} {len : Nat} (h : (s.put (at_ + 1) f len).2 = 4) : s.lay at_ (ent gen f len) (cnt len) = s.put (at_ + 1) f len := by rw [lay_puts, if_neg (by omega)]
theorem layNext_bad {r : St × Nat} {at_ n : Nat} (h : r.2 = 4) : layNext r at_ n = 0 := by unfold layNext; rw [if_neg (by omega)]
theorem layNext_good {r : St × Nat} {at_ n : Nat} (h : r.2 = 0) : layNext r at_ n = (at_ : Int) + (n : Int) := by unfold layNext; rw [if_pos h]
theorem ret2 {a b c d : Int} (h1 : a = c) (h2 : b = d) : Ending.returned (.tuple #[.int .i64 a, .int .i64 b]) = .returned (.tuple #[.int .i64 c, .int .i64 d]) := by rw [h1, h2]
set_option maxHeartbeats 400000 in
theorem lay_arg (w : World) (D : Nat) (at_ e gen : Int) (a : Option Addr) (len cap : Nat) (h : 8192 < len ∨ gen < 0 ∨ 2147483647 < gen ∨ at_ < 0) :
    Calls Try.prog 47 #[.pointer (some ⟨D, 0, none⟩), .int .i64 at_, .int .i64 e, .int .i64 gen, .slice a len cap] w fun r w' => r = .returned (.tuple #[.int .i64 0, .int .i64 1]) ∧ w' = w := by
  by_cases h1 : 8192 < len
  · have h1' : (8192 : Int) < (len : Int) := by omega
    clear h
    go_enter Try.func47, Try.ntmps47
    go_wp2
    go_ret2
    exact ⟨rfl, rfl⟩
  · have h1' : ¬ (8192 : Int) < (len : Int) := by omega
    by_cases h2 : 0 ≤ gen ∧ gen ≤ 2147483647
    · have h4 : at_ < 0 := by omega
      have hd : decide (0 ≤ gen ∧ gen ≤ 2147483647) = true := by simp [h2]
      clear h
      go_enter Try.func47, Try.ntmps47
      go_wp2_with fail
      refine (isGen_any gen w).mono ?_
      rw [hd]
      clear hd h2
      rintro r w1 ⟨rfl, rfl⟩
      go_wp2
      go_ret2
      exact ⟨rfl, rfl⟩
    · have hd : decide (0 ≤ gen ∧ gen ≤ 2147483647) = false := by simp only [h2, decide_false]
      clear h
      go_enter Try.func47, Try.ntmps47
      go_wp2_with fail
      refine (isGen_any gen w).mono ?_
      rw [hd]
      clear hd h2
      rintro r w1 ⟨rfl, rfl⟩
      go_wp2
      go_ret2
      exact ⟨rfl, rfl⟩
set_option maxHeartbeats 800000 in
theorem lay_full {w : World} {D : Nat} {s : St} {F : Nat → Prop} (h : Disk w D s F) (at_ gen : Nat) (e : Int) (a : Option Addr) (len cap : Nat) (hg : gen ≤ 2147483647) (hl : len ≤ 8192) (hn : s.n ≤ 1024) (hroom : fit s.n at_ e len = false) :
    Calls Try.prog 47 #[.pointer (some ⟨D, 0, none⟩), .int .i64 (at_ : Int), .int .i64 e, .int .i64 (gen : Int), .slice a len cap] w fun r w' => r = .returned (.tuple #[.int .i64 0, .int .i64 3]) ∧ w' = w := by
  have hd : decide ((0 : Int) ≤ (gen : Int) ∧ (gen : Int) ≤ 2147483647) = true := by simp; omega
  have h1' : ¬ (8192 : Int) < (len : Int) := by omega
  have hf := fits_any h at_ e len hn (by omega)
  rw [hroom] at hf
  have HF := hide hf
  have HG := hide (isGen_any (gen : Int) w)
  rw [hd] at HG
  clear hd hf h hroom
  go_enter Try.func47, Try.ntmps47
  go_wp2_with fail
  refine HG.out.mono ?_
  rintro r w1 ⟨rfl, rfl⟩
  go_wp2_with fail
  refine HF.out.mono ?_
  rintro r w1 ⟨rfl, rfl⟩
  go_wp2
  go_ret2
  exact ⟨rfl, rfl⟩
set_option maxRecDepth 100000 in
set_option maxHeartbeats 1600000 in
theorem lay_in {w : World} {D : Nat} {s : St} {F : Nat → Prop} (h : Disk w D s F) (at_ gen : Nat) (e : Int) (a : Option Addr) (len cap : Nat) (f : Nat → Nat) (hg : gen ≤ 2147483647) (hl : len ≤ 8192) (hcap : len ≤ cap)
    (hr : Rw w a len f) (hf : ∀ i, i < len → f i < 256) (ha : ∀ x, a = some x → 0 < len → ¬ F x.block) (hn : s.n ≤ 1024) (hlo : s.lo.length < 800000) (hroom : fit s.n at_ e len = true) :
    Calls Try.prog 47 #[.pointer (some ⟨D, 0, none⟩), .int .i64 (at_ : Int), .int .i64 e, .int .i64 (gen : Int), .slice a len cap] w fun r w' =>
      r = .returned (.tuple #[.int .i64 (layNext (s.lay at_ (ent gen f len) (cnt len)) at_ (cnt len)), .int .i64 ((s.lay at_ (ent gen f len) (cnt len)).2 : Int)]) ∧
        ∃ F', Disk w' D (s.lay at_ (ent gen f len) (cnt len)).1 F' ∧ Step F F' w w' := by
  have hd : decide ((0 : Int) ≤ (gen : Int) ∧ (gen : Int) ≤ 2147483647) = true := by simp; omega
  have h1' : ¬ (8192 : Int) < (len : Int) := by omega
  have hft := fits_any h at_ e len hn (by omega)
  have hrm := (fit_iff s.n at_ e len).1 hroom
  rw [hroom] at hft
  have HFT := hide hft
  have HG := hide (isGen_any (gen : Int) w)
  rw [hd] at HG
  have hcn : cnt len = 1 + (len + 63) / 64 := rfl
  have HRM : Hid (at_ + 1 + (len + 63) / 64 ≤ s.n) := by show _ ≤ _; omega
  have hat : (at_ : Int) ≤ 1024 := by omega
  have H := hide h
  have HR := hide hr
  have HF := hide hf
  have HA := hide ha
  have HL := hide (And.intro hl (And.intro hcap (And.intro hn hlo)))
  have hl' : (len : Int) ≤ 8192 := by omega
  clear hd hft h hroom hr hf ha hrm hcn hcap hlo
  go_enter Try.func47, Try.ntmps47
  go_wp2_with fail
  refine HG.out.mono ?_
  rintro r w1 ⟨rfl, rfl⟩
  go_wp2_with fail
  refine HFT.out.mono ?_
  rintro r w1 ⟨rfl, rfl⟩
  go_wp2_with fail
  refine (put_any H.out (at_ + 1) a len cap f (by omega) HL.out.2.1 hn (by have := HL.out; omega) HRM.out HR.out HA.out).mono ?_
  rintro r w2 ⟨rfl, F2, hd2, hst2⟩
  have HD2 := hide hd2
  have HST2 := hide hst2
  clear hd2 hst2
  rcases put_cases s (at_ + 1) f len with h0 | h0
  · have H0 := hide h0
    rw [h0]
    clear h0
    go_wp2_with fail
    refine (head_any gen hg a len cap f w2 (HR.out.keeps HST2.out.1 HA.out) HF.out (by omega)).mono ?_
    rintro r w3 ⟨rfl, hsh, hb3⟩
    have HSH := hide hsh
    have HB3 := hide hb3
    clear hsh hb3
    go_wp2_with fail
    refine (put_any (HD2.out.later HB3.out) at_ (some ⟨w2.heap.size, 0, none⟩) 64 64 (ent gen f len 0) (by omega) (by omega) (by rw [put_n]; exact hn) (by have := put_lo s (at_ + 1) f len; have := HL.out; omega) (by rw [put_n]; have := HRM.out; omega) (HSH.out.rw 64 (Nat.le_refl _)) (fun x hx _ hb => by injection hx with hx; subst hx; have := HD2.out.lt _ hb; simp at this)).mono ?_
    rintro r w4 ⟨rfl, F4, hd4, hst4⟩
    have HD4 := hide hd4
    have HST4 := hide (HST2.out.trans ((Step.of_below HB3.out).trans hst4))
    clear hd4 hst4
    have HLY := hide (lay_ok1 (gen := gen) H0.out)
    rcases put_cases (s.put (at_ + 1) f len).1 at_ (ent gen f len 0) 64 with h5 | h5
    · have H5 := hide h5
      rw [h5]
      clear h5
      go_wp2_with fail
      refine (size_any (len : Int) _ (by omega)).mono ?_
      rintro r w5 ⟨rfl, rfl⟩
      rw [Int.toNat_natCast]
      have hc2 : (cnt len : Int) ≤ 200 := by unfold cnt; omega
      go_wp2
      go_ret2
      rw [HLY.out]
      exact ⟨ret2 (layNext_good H5.out).symm (by rw [H5.out]; rfl), F4, HD4.out, HST4.out⟩
    · have H5 := hide h5
      rw [h5]
      clear h5
      go_wp2
      go_ret2
      rw [HLY.out]
      exact ⟨ret2 (layNext_bad H5.out).symm (by rw [H5.out]; rfl), F4, HD4.out, HST4.out⟩
  · have H0 := hide h0
    rw [h0]
    clear h0
    go_wp2
    go_ret2
    rw [lay_bad1 H0.out]
    exact ⟨ret2 (layNext_bad H0.out).symm (by rw [H0.out]; rfl), F2, HD2.out, HST2.out⟩
end Go.Proofs.Ytbecchoidglaeaa
