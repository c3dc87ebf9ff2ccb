/- What is read, written again, is what was read. Nothing of the program is named here. -/
import Derived.Test.YtempaadgheondaaDoorHPlain
import Derived.Test.YtempaadgheondaaDoorHKx
namespace Go.Proofs.YtempaadgheondaaDoor
open Go.RowKit
set_option maxRecDepth 100000

/-- The n bytes from place i on. -/
def bytesAt (f : Nat → Nat) (i n : Nat) : List Nat := (List.range n).map fun j => f (i + j)
theorem bytesAt_length (f : Nat → Nat) (i n : Nat) : (bytesAt f i n).length = n := by simp [bytesAt]
theorem bytesAt_app (f : Nat → Nat) (i m n : Nat) : bytesAt f i (m + n) = bytesAt f i m ++ bytesAt f (i + m) n := by
  simp [bytesAt, List.range_add, Nat.add_assoc]
theorem b4_num (g : Nat → Nat) (hg : ∀ q, q < 4 → g q < 256) : b4 ((num g : Nat) : Int) = bytesAt g 0 4 := by
  have h0 := hg 0 (by omega)
  have h1 := hg 1 (by omega)
  have h2 := hg 2 (by omega)
  have h3 := hg 3 (by omega)
  unfold b4 bytesAt
  rw [Int.toNat_natCast]
  have e : List.range 4 = [0, 1, 2, 3] := rfl
  rw [e]
  simp only [List.map_cons, List.map_nil, Nat.zero_add, byteAt, num]
  congr 1
  · omega
  congr 1
  · omega
  congr 1
  · omega
  congr 1
  omega
theorem nums_at (f : Nat → Nat) (j : Nat) : ∀ n, (∀ i, i < 4 * n → f (j + i) < 256) → nums (numsAt f j n) = bytesAt f j (4 * n)
  | 0, _ => rfl
  | n + 1, h => by
    rw [numsAt_succ, nums_snoc, nums_at f j n (fun i hi => h i (by omega)), b4_num _ (fun q hq => by have := h (4 * n + q) (by omega); rwa [← Nat.add_assoc] at this), show 4 * (n + 1) = 4 * n + 4 from by omega, bytesAt_app]
    simp [bytesAt]
theorem encSeg_at (f : Nat → Nat) (len i : Nat) (hf : ∀ j, j < len → f j < 256) (hk : segOk f len i = true) : encSeg (segAt f i) = bytesAt f i (2 + 4 * f (i + 1)) := by
  obtain ⟨h1, h2, h3⟩ : i + 2 ≤ len ∧ (f i = 1 ∨ f i = 2) ∧ i + 2 + 4 * f (i + 1) ≤ len := of_decide_eq_true hk
  unfold encSeg segAt
  simp only
  rw [nums_at f (i + 2) _ (fun j hj => hf _ (by omega)), numsAt_length, bytesAt_app]
  congr 1
  have e : List.range 2 = [0, 1] := rfl
  unfold bytesAt
  rw [e]
  simp only [List.map_cons, List.map_nil, Nat.add_zero]
  congr 1
  unfold kindOf
  rcases h2 with h2 | h2 <;> simp [h2]
theorem run_enc (f : Nat → Nat) (len : Nat) (hf : ∀ j, j < len → f j < 256) : ∀ (k i : Nat) (acc ss : List (Bool × List Int)), len - i ≤ k → i ≤ len → segsRun f len i acc = some ss → goodP ss = true ∧ encSegs ss = encSegs acc ++ bytesAt f i (len - i)
  | k, i, acc, ss, hk, hi, h => by
    by_cases hlt : i < len
    · cases ho : segOk f len i with
      | false => rw [segsRun_no hlt ho] at h; cases h
      | true =>
        rw [segsRun_go hlt ho] at h
        obtain ⟨h1, h2, h3⟩ : i + 2 ≤ len ∧ (f i = 1 ∨ f i = 2) ∧ i + 2 + 4 * f (i + 1) ≤ len := of_decide_eq_true ho
        match k, hk with
        | 0, hk => omega
        | k + 1, hk =>
          obtain ⟨g1, g2⟩ := run_enc f len hf k _ _ ss (by omega) h3 h
          refine ⟨g1, ?_⟩
          rw [g2, encSegs_snoc, encSeg_at f len i hf ho, List.append_assoc, show len - i = (2 + 4 * f (i + 1)) + (len - (i + 2 + 4 * f (i + 1))) from by omega, bytesAt_app f i (2 + 4 * f (i + 1)), show i + (2 + 4 * f (i + 1)) = i + 2 + 4 * f (i + 1) from by omega]
    · rw [segsRun_end hlt] at h
      unfold fin at h
      split at h
      · next hg =>
        injection h with h
        subst h
        refine ⟨hg, ?_⟩
        rw [show len - i = 0 from by omega]
        simp [bytesAt]
      · cases h
theorem read_enc {f : Nat → Nat} {len : Nat} (hf : ∀ j, j < len → f j < 256) {ss : List (Bool × List Int)} (h : segsRun f len 0 [] = some ss) : goodP ss = true ∧ encPath ss = bytesAt f 0 len := by
  obtain ⟨h1, h2⟩ := run_enc f len hf len 0 [] ss (by omega) (Nat.zero_le _) h
  refine ⟨h1, ?_⟩
  unfold encPath
  rw [h1, if_pos rfl, h2]
  rfl
end Go.Proofs.YtempaadgheondaaDoor
/- What is read is good (plain). -/
namespace Go.Proofs.YtempaadgheondaaDoor
open Go.RowKit
set_option maxRecDepth 100000

/-- What is read, halfway. -/
structure Mid (N : Nat) (a : At) (seen rest : List Nat) : Prop where
  origin : 0 ≤ a.origin ∧ a.origin ≤ 2
  path : 2 ∈ seen → goodP a.path = true
  plen : a.path.length + sumP a.path ≤ N
  hop : 3 ∈ seen → hopB a.next = true
  next : a.next < 4294967296
  med : -1 ≤ a.med ∧ a.med ≤ 4294967295
  pref : -1 ≤ a.pref ∧ a.pref ≤ 4294967295
  comms : a.comms.length ≤ 32
  none : 8 ∉ seen → a.comms = []
  raws : ∀ r ∈ a.raws, rawK r = true ∧ (∃ t : Nat, t ∈ seen ∧ r.2.1 = (t : Int)) ∧ ∀ x ∈ r.2.2, x < 256
  up : a.raws.Pairwise fun x y => x.2.1 < y.2.1
  size : sumR a.raws + 3 * a.raws.length + rest.length ≤ N
theorem sumR_ins (r : Int × Int × List Nat) : ∀ l : List (Int × Int × List Nat), sumR (insR r l) = sumR l + r.2.2.length
  | [] => by simp [insR, sumR]
  | x :: l => by
    rw [insR]
    split
    · simp only [sumR]; omega
    · simp only [sumR, sumR_ins r l]; omega
theorem up_good {rs : List (Int × Int × List Nat)} (h : rs.Pairwise fun x y => x.2.1 < y.2.1) (hk : ∀ r ∈ rs, rawK r = true) : ∀ n, n ≤ rs.length → rawsUp rs n = true
  | 0, _ => rfl
  | n + 1, hn => by
    have e : ∀ i (hi : i < rs.length), rs.getD i (0, 0, []) = rs[i] := fun i hi => by rw [List.getD_eq_getElem?_getD, List.getElem?_eq_getElem hi]; rfl
    have ih := up_good h hk n (by omega)
    have h2 : rawK (rs.getD n (0, 0, [])) = true := by rw [e n (by omega)]; exact hk _ (List.getElem_mem _)
    rw [rawsUp, ih, h2, Bool.true_and, Bool.true_and]
    by_cases e0 : n = 0
    · rw [decide_eq_true e0]; rfl
    · have h3 : typAt rs (n - 1) < typAt rs n := by
        unfold typAt
        rw [e n (by omega), e (n - 1) (by omega)]
        exact List.pairwise_iff_getElem.1 h (n - 1) n (by omega) (by omega) (by omega)
      rw [decide_eq_true h3, Bool.or_true]
section
variable {N : Nat} {a a' : At} {seen rest rest2 : List Nat}
theorem Mid.more (h : Mid N a seen rest) (ty : Nat) (h2 : ty ≠ 2) (h3 : ty ≠ 3) (hs : rest2.length ≤ rest.length) : Mid N a (ty :: seen) rest2 := by
  have := h.size
  exact ⟨h.origin, fun e => h.path (by simpa [Ne.symm h2] using e), h.plen, fun e => h.hop (by simpa [Ne.symm h3] using e), h.next, h.med, h.pref, h.comms, fun e => h.none (fun e2 => e (List.mem_cons_of_mem _ e2)), fun r hr => ⟨(h.raws r hr).1, by obtain ⟨t, h1, h2⟩ := (h.raws r hr).2.1; exact ⟨t, List.mem_cons_of_mem _ h1, h2⟩, (h.raws r hr).2.2⟩, h.up, by omega⟩
theorem Mid.ins (h : Mid N a seen rest) (ty : Nat) (f : Int) (d : List Nat) (h2 : ty ≠ 2) (h3 : ty ≠ 3) (hty : ty ∉ seen) (hk : rawK (f, (ty : Int), d) = true) (hd : ∀ x ∈ d, x < 256) (hs : 3 + d.length + rest2.length ≤ rest.length) : Mid N { a with raws := insR (f, (ty : Int), d) a.raws } (ty :: seen) rest2 := by
  have hz := h.size
  have m := h.more (rest2 := rest2) ty h2 h3 (by omega)
  refine ⟨m.origin, m.path, m.plen, m.hop, m.next, m.med, m.pref, m.comms, m.none, fun r hr => ?_, insR_up _ _ h.up (fun x hx e => ?_), ?_⟩
  · rcases List.mem_append.1 ((insR_perm _ _).mem_iff.1 hr) with h1 | h1
    · exact m.raws r h1
    · obtain rfl := List.mem_singleton.1 h1
      exact ⟨hk, ⟨ty, List.mem_cons_self, rfl⟩, hd⟩
  · obtain ⟨t, h4, h5⟩ := (h.raws x hx).2.1
    rw [h5] at e
    have e9 : t = ty := by have e8 : (t : Int) = (ty : Int) := e; omega
    exact hty (e9 ▸ h4)
  · show sumR (insR _ _) + 3 * (insR _ _).length + _ ≤ _
    rw [sumR_ins, insR_len]
    show sumR a.raws + d.length + _ + _ ≤ _
    omega
theorem Mid.step (h : Mid N a seen rest) {fl ty : Nat} {d all : List Nat} (hty : ty ∉ seen) (ht : ty < 256) (hd : ∀ x ∈ d, x < 256) (hs : 3 + d.length + rest2.length ≤ rest.length) (he : applyA a fl ty d all = .inr a') : Mid N a' (ty :: seen) rest2 := by
  have hz := h.size
  have hle : rest2.length ≤ rest.length := by omega
  have pass : ty ≠ 2 → ty ≠ 3 → (Sum.inr a : Res) = .inr a' → Mid N a' (ty :: seen) rest2 := fun h2 h3 e => by
    cases e
    exact h.more ty h2 h3 hle
  have bad : ∀ n, (Sum.inl n : Res) = .inr a' → Mid N a' (ty :: seen) rest2 := fun n e => by cases e
  unfold applyA at he
  split at he
  · rename_i hk
    unfold knownA at he
    split at he
    · exact bad _ he
    split at he
    · exact bad _ he
    rename_i hsb
    have hsb2 : ¬ (ty = 1 ∧ d.length ≠ 1 ∨ (ty = 3 ∨ ty = 4 ∨ ty = 5) ∧ d.length ≠ 4 ∨ ty = 6 ∧ d.length ≠ 0 ∨ ty = 7 ∧ d.length ≠ 8 ∨ ty = 8 ∧ (d.length = 0 ∨ d.length % 4 ≠ 0)) := by
      intro e
      exact hsb (by unfold sizeBad; exact decide_eq_true e)
    split at he
    · rename_i t1
      split at he
      · exact bad _ he
      · cases he
        have m := h.more (rest2 := rest2) ty (by omega) (by omega) hle
        exact ⟨⟨by show (0 : Int) ≤ ((d.getD 0 0 : Nat) : Int); omega, by show ((d.getD 0 0 : Nat) : Int) ≤ 2; omega⟩, m.path, m.plen, m.hop, m.next, m.med, m.pref, m.comms, m.none, m.raws, m.up, m.size⟩
    split at he
    · rename_i t2
      split at he
      · exact bad _ he
      · rename_i p hp
        cases he
        obtain ⟨g1, g2⟩ := read_enc (f := fun q => d.getD q 0) (fun j _ => byte_lt hd j) hp
        have g3 : (encPath p).length = d.length := by rw [g2, bytesAt_length]
        unfold encPath at g3
        rw [if_pos g1, encSegs_length] at g3
        have m := h.more (rest2 := rest2) 0 (by omega) (by omega) hle
        exact ⟨h.origin, fun _ => g1, by show p.length + sumP p ≤ N; omega, fun e => h.hop (by rcases List.mem_cons.1 e with e | e; omega; exact e), h.next, h.med, h.pref, h.comms, fun e => h.none (fun e2 => e (List.mem_cons_of_mem _ e2)), fun r hr => ⟨(h.raws r hr).1, by obtain ⟨t, h1, h2⟩ := (h.raws r hr).2.1; exact ⟨t, List.mem_cons_of_mem _ h1, h2⟩, (h.raws r hr).2.2⟩, h.up, m.size⟩
    split at he
    · rename_i t3
      split at he
      · rename_i hop
        cases he
        have m := h.more (rest2 := rest2) 0 (by omega) (by omega) hle
        exact ⟨h.origin, fun e => h.path (by rcases List.mem_cons.1 e with e | e; omega; exact e), h.plen, fun _ => hop, numL_lt d hd, h.med, h.pref, h.comms, fun e => h.none (fun e2 => e (List.mem_cons_of_mem _ e2)), fun r hr => ⟨(h.raws r hr).1, by obtain ⟨t, h1, h2⟩ := (h.raws r hr).2.1; exact ⟨t, List.mem_cons_of_mem _ h1, h2⟩, (h.raws r hr).2.2⟩, h.up, m.size⟩
      · exact bad _ he
    split at he
    · cases he
      have hn := numL_lt d hd
      have m := h.more (rest2 := rest2) ty (by omega) (by omega) hle
      exact ⟨m.origin, m.path, m.plen, m.hop, m.next, ⟨by show (-1 : Int) ≤ ((numL d : Nat) : Int); omega, by show ((numL d : Nat) : Int) ≤ 4294967295; omega⟩, m.pref, m.comms, m.none, m.raws, m.up, m.size⟩
    split at he
    · cases he
      have hn := numL_lt d hd
      have m := h.more (rest2 := rest2) ty (by omega) (by omega) hle
      exact ⟨m.origin, m.path, m.plen, m.hop, m.next, m.med, ⟨by show (-1 : Int) ≤ ((numL d : Nat) : Int); omega, by show ((numL d : Nat) : Int) ≤ 4294967295; omega⟩, m.comms, m.none, m.raws, m.up, m.size⟩
    split at he
    · rename_i t8
      split at he
      · exact bad _ he
      · cases he
        have m := h.more (rest2 := rest2) ty (by omega) (by omega) hle
        have c0 := h.none (t8 ▸ hty)
        exact ⟨m.origin, m.path, m.plen, m.hop, m.next, m.med, m.pref, by show (a.comms ++ numsL d).length ≤ 32; rw [c0, List.nil_append, numsL_length]; omega, fun e => absurd (by rw [t8]; exact List.mem_cons_self) e, m.raws, m.up, m.size⟩
    · cases he
      rcases (by omega : ty = 6 ∨ ty = 7) with rfl | rfl
      · exact h.ins 6 _ d (by omega) (by omega) hty (decide_eq_true (.inl ⟨rfl, rfl, by show d.length = 0; omega⟩)) hd hs
      · exact h.ins 7 _ d (by omega) (by omega) hty (decide_eq_true (.inr (.inl ⟨rfl, rfl, by show d.length = 8; omega⟩))) hd hs
  split at he
  · exact bad _ he
  split at he
  · exact pass (by omega) (by omega) he
  split at he
  · exact bad _ he
  split at he
  · cases he
    exact h.ins ty _ d (by omega) (by omega) hty (decide_eq_true (.inr (.inr ⟨by show (8 : Int) < (ty : Int); omega, by show (ty : Int) ≤ 255; omega, rfl, by show d.length ≤ 255; omega⟩))) hd hs
  · exact pass (by omega) (by omega) he
theorem Mid.fin (h : Mid N a seen rest) (he : finA a seen = .inr a') : goodA a' = true ∧ a'.next < 4294967296 ∧ sizeA a' ≤ 2 * N + 32 ∧ ∀ r ∈ a'.raws, ∀ x ∈ r.2.2, x < 256 := by
  unfold finA at he
  split at he
  · cases he
  split at he
  · cases he
  split at he
  · cases he
  rename_i h1 h2 h3
  cases he
  have hz := h.size
  have hp := h.plen
  have hc := h.comms
  refine ⟨?_, h.next, by unfold sizeA; omega, fun r hr => (h.raws r hr).2.2⟩
  unfold goodA headA
  rw [decide_eq_true h.origin, h.path (Classical.not_not.1 h2), h.hop (Classical.not_not.1 h3), decide_eq_true h.med, decide_eq_true h.pref, decide_eq_true h.comms, up_good h.up (fun r hr => (h.raws r hr).1) _ (Nat.le_refl _)]
  rfl
end
theorem run_good {N : Nat} : ∀ (k : Nat) (rest : List Nat) (a a' : At) (seen : List Nat), rest.length ≤ k → (∀ x ∈ rest, x < 256) → Mid N a seen rest → runA rest a seen = .inr a' → goodA a' = true ∧ a'.next < 4294967296 ∧ sizeA a' ≤ 2 * N + 32 ∧ ∀ r ∈ a'.raws, ∀ x ∈ r.2.2, x < 256
  | 0, rest, a, a', seen, hk, _, h, he => by
    obtain rfl : rest = [] := List.eq_nil_of_length_eq_zero (by omega)
    exact h.fin ((runA_end a seen).symm.trans he)
  | k + 1, rest, a, a', seen, hk, hb, h, he => by
    by_cases h0 : rest = []
    · subst h0
      exact h.fin ((runA_end a seen).symm.trans he)
    · cases hf : fitsL rest seen with
      | false => rw [runA_no h0 hf] at he; cases he
      | true =>
        rw [runA_go h0 hf] at he
        have hf2 : headL (rest.getD 0 0) ≤ rest.length ∧ headL (rest.getD 0 0) + sizeL rest ≤ rest.length ∧ rest.getD 1 0 ∉ seen := of_decide_eq_true ((fitsL_eq rest seen).symm.trans hf)
        obtain ⟨f1, f2, f3⟩ := hf2
        have hh : 3 ≤ headL (rest.getD 0 0) := by unfold headL; split <;> omega
        generalize hap : applyA a (rest.getD 0 0) (rest.getD 1 0) ((rest.drop (headL (rest.getD 0 0))).take (sizeL rest)) (rest.take (headL (rest.getD 0 0) + sizeL rest)) = r at he
        cases r with
        | inl n => rw [thenA_no] at he; cases he
        | inr a2 =>
          rw [thenA_go] at he
          have hl : (rest.drop (headL (rest.getD 0 0) + sizeL rest)).length = rest.length - (headL (rest.getD 0 0) + sizeL rest) := List.length_drop ..
          refine run_good k _ a2 a' _ (by rw [hl]; omega) (fun x hx => hb x (List.mem_of_mem_drop hx)) (h.step f3 (byte_lt hb 1) (fun x hx => hb x (List.mem_of_mem_drop (List.mem_of_mem_take hx))) ?_ hap) he
          rw [hl, List.length_take, List.length_drop]
          omega
/-- What is read is good, and no more than was there. -/
theorem read_good {bs : List Nat} {a : At} (hb : ∀ x ∈ bs, x < 256) (h : readA bs = .inr a) : goodA a = true ∧ a.next < 4294967296 ∧ sizeA a ≤ 2 * bs.length + 32 ∧ ∀ r ∈ a.raws, ∀ x ∈ r.2.2, x < 256 :=
  run_good bs.length bs _ a [] (Nat.le_refl _) hb ⟨by decide, fun e => by simp at e, by simp [sumP], fun e => by simp at e, by decide, by decide, by decide, by simp, fun _ => rfl, fun r hr => by simp at hr, List.Pairwise.nil, by simp [sumR]⟩ h
theorem applyA_note {a : At} {fl ty : Nat} {d all : List Nat} {n : Nat × Nat × List Nat} (h : applyA a fl ty d all = .inl n) : n.1 = 3 ∧ (n.2.2 = all ∨ n.2.2 = []) := by
  have key : ∀ (s : Nat) (l : List Nat), (Sum.inl (3, s, l) : Res) = .inl n → (l = all ∨ l = []) → n.1 = 3 ∧ (n.2.2 = all ∨ n.2.2 = []) := fun s l e hl => by
    cases e
    exact ⟨rfl, hl⟩
  unfold applyA at h
  split at h
  · exact knownA_three h
  split at h
  · exact key _ _ h (.inl rfl)
  split at h
  · cases h
  split at h
  · exact key _ _ h (.inl rfl)
  split at h
  · cases h
  · cases h
theorem fin_note {a : At} {seen : List Nat} {n : Nat × Nat × List Nat} (h : finA a seen = .inl n) : n.1 = 3 ∧ (∀ x ∈ n.2.2, x < 256) ∧ n.2.2.length = 1 := by
  unfold finA at h
  split at h
  · cases h; exact ⟨rfl, by simp, rfl⟩
  split at h
  · cases h; exact ⟨rfl, by simp, rfl⟩
  split at h
  · cases h; exact ⟨rfl, by simp, rfl⟩
  · cases h
theorem run_note : ∀ (k : Nat) (rest : List Nat) (a : At) (seen : List Nat) (n : Nat × Nat × List Nat), rest.length ≤ k → (∀ x ∈ rest, x < 256) → runA rest a seen = .inl n → n.1 = 3 ∧ (∀ x ∈ n.2.2, x < 256) ∧ n.2.2.length ≤ rest.length + 1
  | 0, rest, a, seen, n, hk, _, he => by
    obtain rfl : rest = [] := List.eq_nil_of_length_eq_zero (by omega)
    obtain ⟨h1, h2, h3⟩ := fin_note ((runA_end a seen).symm.trans he)
    exact ⟨h1, h2, by omega⟩
  | k + 1, rest, a, seen, n, hk, hb, he => by
    by_cases h0 : rest = []
    · subst h0
      obtain ⟨h1, h2, h3⟩ := fin_note ((runA_end a seen).symm.trans he)
      exact ⟨h1, h2, by omega⟩
    · cases hf : fitsL rest seen with
      | false =>
        rw [runA_no h0 hf] at he
        cases he
        exact ⟨rfl, by simp, by simp⟩
      | true =>
        rw [runA_go h0 hf] at he
        have hh : 3 ≤ headL (rest.getD 0 0) := by unfold headL; split <;> omega
        generalize hap : applyA a (rest.getD 0 0) (rest.getD 1 0) ((rest.drop (headL (rest.getD 0 0))).take (sizeL rest)) (rest.take (headL (rest.getD 0 0) + sizeL rest)) = r at he
        cases r with
        | inl m =>
          rw [thenA_no] at he
          cases he
          obtain ⟨h1, h2⟩ := applyA_note hap
          refine ⟨h1, ?_, ?_⟩
          · rcases h2 with h2 | h2 <;> rw [h2]
            · exact fun x hx => hb x (List.mem_of_mem_take hx)
            · simp
          · rcases h2 with h2 | h2 <;> rw [h2]
            · rw [List.length_take]; omega
            · simp
        | inr a2 =>
          rw [thenA_go] at he
          have hl : (rest.drop (headL (rest.getD 0 0) + sizeL rest)).length = rest.length - (headL (rest.getD 0 0) + sizeL rest) := List.length_drop ..
          have hp : 0 < rest.length := List.length_pos_iff.2 h0
          obtain ⟨h1, h2, h3⟩ := run_note k _ a2 _ n (by rw [hl]; omega) (fun x hx => hb x (List.mem_of_mem_drop hx)) he
          exact ⟨h1, h2, by omega⟩
theorem read_note {bs : List Nat} {n : Nat × Nat × List Nat} (hb : ∀ x ∈ bs, x < 256) (h : readA bs = .inl n) : n.1 = 3 ∧ (∀ x ∈ n.2.2, x < 256) ∧ n.2.2.length ≤ bs.length + 1 := run_note bs.length bs _ [] n (Nat.le_refl _) hb h
end Go.Proofs.YtempaadgheondaaDoor
