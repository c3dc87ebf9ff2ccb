/- Capabilities, in plain numbers: what is good, what is written, what is read. Nothing of the program is named here. -/
import Derived.Test.YtkmfnafecdfedaaGreatDoorHPf
import Derived.Test.YtkmfnafecdfedaaGreatDoorHSm
namespace Go.Proofs.YtkmfnafecdfedaaGreatDoor

/-- Capabilities. -/
structure Cp where
  four : Bool
  as4 : Int
  gr : Bool
  rs : Bool
  tm : Int
  fam : Bool
  fwd : Bool
  ll : Bool
  lt : Int
/-- None. -/
def cp0 : Cp := ⟨false, 0, false, false, 0, false, false, false, 0⟩
def gFour (c : Cp) : Bool := if c.four then decide (1 ≤ c.as4 ∧ c.as4 ≤ 4294967295) else decide (c.as4 = 0)
def gGR (c : Cp) : Bool := (c.gr || (!c.rs && decide (c.tm = 0) && !c.fam)) && (decide (0 ≤ c.tm ∧ c.tm ≤ 4095) && (c.fam || !c.fwd))
def gLL (c : Cp) : Bool := if c.ll then decide (0 ≤ c.lt ∧ c.lt ≤ 16777215) else decide (c.lt = 0)
/-- Are capabilities good? -/
def goodC (c : Cp) : Bool := gFour c && gGR c && gLL c
/-- A type, or a code, how many bytes, these. -/
def tlv (k : Nat) (v : List Nat) : List Nat := k :: v.length :: v
/-- A number's four bytes. -/
def by4 (v : Nat) : List Nat := (List.range 4).map (byteAt v)
theorem by4_eq (v : Nat) : by4 v = [v / 16777216 % 256, v / 65536 % 256, v / 256 % 256, v % 256] := by
  have e : by4 v = [byteAt v 0, byteAt v 1, byteAt v 2, byteAt v 3] := rfl
  rw [e]
  simp only [byteAt, Nat.sub_zero, Nat.reduceSub, Nat.reduceMul, Nat.reducePow, Nat.pow_zero, Nat.div_one]
def vFour (c : Cp) : List Nat := by4 c.as4.toNat
def headGR (c : Cp) : Nat := c.tm.toNat + if c.rs then 32768 else 0
def famGR (c : Cp) : List Nat := if c.fam then [0, 1, 1, if c.fwd then 128 else 0] else []
def vGR (c : Cp) : List Nat := headGR c / 256 :: headGR c % 256 :: famGR c
def vLL (c : Cp) : List Nat := 0 :: 1 :: 1 :: 0 :: (by4 c.lt.toNat).drop 1
def eFour (c : Cp) : List Nat := if c.four then tlv 65 (vFour c) else []
def eGR (c : Cp) : List Nat := if c.gr then tlv 64 (vGR c) else []
def eLL (c : Cp) : List Nat := if c.ll then tlv 71 (vLL c) else []
def encIn (c : Cp) : List Nat := eFour c ++ (eGR c ++ eLL c)
/-- The bytes of capabilities. -/
def encCp (c : Cp) : List Nat := if goodC c then (if encIn c = [] then [] else tlv 2 (encIn c)) else []
theorem tlv_length (k : Nat) (v : List Nat) : (tlv k v).length = 2 + v.length := by simp [tlv]; omega
theorem vLL_eq (c : Cp) : vLL c = [0, 1, 1, 0, c.lt.toNat / 65536 % 256, c.lt.toNat / 256 % 256, c.lt.toNat % 256] := by rw [vLL, by4_eq]; rfl
theorem vGR_length (c : Cp) : (vGR c).length = if c.fam then 6 else 2 := by
  unfold vGR famGR
  split <;> rfl
theorem vFour_length (c : Cp) : (vFour c).length = 4 := by simp [vFour, by4]
theorem vLL_length (c : Cp) : (vLL c).length = 7 := by rw [vLL_eq]; rfl
theorem eFour_length (c : Cp) : (eFour c).length = if c.four then 6 else 0 := by
  unfold eFour
  split
  · rw [tlv_length, vFour_length]
  · rfl
theorem eGR_length (c : Cp) : (eGR c).length ≤ 8 := by
  unfold eGR
  split
  · rw [tlv_length, vGR_length]; split <;> omega
  · simp
theorem eLL_length (c : Cp) : (eLL c).length ≤ 9 := by
  unfold eLL
  split
  · rw [tlv_length, vLL_length]; omega
  · simp
theorem encIn_length (c : Cp) : (encIn c).length ≤ 23 := by
  have h1 := eFour_length c
  have h2 := eGR_length c
  have h3 := eLL_length c
  have h4 : (eFour c).length ≤ 6 := by rw [h1]; split <;> omega
  simp only [encIn, List.length_append]
  omega
theorem encCp_length (c : Cp) : (encCp c).length ≤ 25 := by
  have := encIn_length c
  unfold encCp
  split
  · split
    · simp
    · rw [tlv_length]; omega
  · simp
theorem tlv_lt {k : Nat} {v : List Nat} (hk : k < 256) (hl : v.length < 256) (hv : ∀ x ∈ v, x < 256) : ∀ x ∈ tlv k v, x < 256 := by
  intro x hx
  simp only [tlv, List.mem_cons] at hx
  rcases hx with rfl | rfl | hx
  · exact hk
  · exact hl
  · exact hv x hx
theorem by4_lt (v : Nat) : ∀ x ∈ by4 v, x < 256 := by
  intro x hx
  obtain ⟨q, _, rfl⟩ := List.mem_map.1 hx
  exact byteAt_lt v q
theorem goodC_parts {c : Cp} (h : goodC c = true) : gFour c = true ∧ gGR c = true ∧ gLL c = true := by
  unfold goodC at h
  simp only [Bool.and_eq_true] at h
  exact ⟨h.1.1, h.1.2, h.2⟩
theorem gFour_yes {c : Cp} (h : gFour c = true) (hf : c.four = true) : 1 ≤ c.as4 ∧ c.as4 ≤ 4294967295 := by unfold gFour at h; rw [if_pos hf] at h; exact of_decide_eq_true h
theorem gFour_no {c : Cp} (h : gFour c = true) (hf : c.four = false) : c.as4 = 0 := by unfold gFour at h; rw [hf] at h; exact of_decide_eq_true h
theorem gLL_yes {c : Cp} (h : gLL c = true) (hf : c.ll = true) : 0 ≤ c.lt ∧ c.lt ≤ 16777215 := by unfold gLL at h; rw [if_pos hf] at h; exact of_decide_eq_true h
theorem gLL_no {c : Cp} (h : gLL c = true) (hf : c.ll = false) : c.lt = 0 := by unfold gLL at h; rw [hf] at h; exact of_decide_eq_true h
theorem gGR_tm {c : Cp} (h : gGR c = true) : 0 ≤ c.tm ∧ c.tm ≤ 4095 := by unfold gGR at h; simp only [Bool.and_eq_true] at h; exact of_decide_eq_true h.2.1
theorem gGR_fwd {c : Cp} (h : gGR c = true) (hf : c.fam = false) : c.fwd = false := by
  unfold gGR at h
  simp only [Bool.and_eq_true] at h
  have h2 := h.2.2
  rw [hf] at h2
  simpa using h2
theorem gGR_no {c : Cp} (h : gGR c = true) (hf : c.gr = false) : c.rs = false ∧ c.tm = 0 ∧ c.fam = false := by
  unfold gGR at h
  simp only [Bool.and_eq_true] at h
  have h1 := h.1
  rw [hf] at h1
  simpa [and_assoc] using h1
theorem headGR_lt {c : Cp} (h : gGR c = true) : headGR c < 65536 := by
  have := gGR_tm h
  unfold headGR
  split <;> omega
theorem encIn_lt {c : Cp} (h : goodC c = true) : ∀ x ∈ encIn c, x < 256 := by
  obtain ⟨h1, h2, h3⟩ := goodC_parts h
  intro x hx
  simp only [encIn, List.mem_append] at hx
  rcases hx with hx | hx | hx
  · unfold eFour at hx
    split at hx
    · exact tlv_lt (by omega) (show (vFour c).length < 256 by rw [vFour_length]; omega) (by4_lt _) x hx
    · simp at hx
  · unfold eGR at hx
    split at hx
    · refine tlv_lt (by omega) (by rw [vGR_length]; split <;> omega) (fun y hy => ?_) x hx
      have hl := headGR_lt h2
      simp only [vGR, List.mem_cons] at hy
      rcases hy with rfl | rfl | hy
      · omega
      · omega
      · unfold famGR at hy
        split at hy
        · simp only [List.mem_cons, List.not_mem_nil, or_false] at hy
          rcases hy with rfl | rfl | rfl | rfl
          · omega
          · omega
          · omega
          · split <;> omega
        · simp at hy
    · simp at hx
  · unfold eLL at hx
    split at hx
    · refine tlv_lt (by omega) (by rw [vLL_length]; omega) (fun y hy => ?_) x hx
      simp only [vLL, List.mem_cons] at hy
      rcases hy with rfl | rfl | rfl | rfl | hy
      · omega
      · omega
      · omega
      · omega
      · exact by4_lt _ y (List.mem_of_mem_drop hy)
    · simp at hx
theorem encCp_lt (c : Cp) : ∀ x ∈ encCp c, x < 256 := by
  intro x hx
  unfold encCp at hx
  split at hx
  · rename_i hg
    split at hx
    · simp at hx
    · exact tlv_lt (by omega) (by have := encIn_length c; omega) (encIn_lt hg) x hx
  · simp at hx

/-! ### Reading -/
/-- Do a type, a length and so many bytes stand first? -/
def okE (bs : List Nat) : Bool := decide (2 ≤ bs.length ∧ 2 + bs.getD 1 0 ≤ bs.length)
def runE {S : Type} (f : Nat → List Nat → S → Option S) : Nat → List Nat → S → Option S
  | _, [], c => some c
  | 0, _ :: _, _ => none
  | k + 1, x :: r, c => if okE (x :: r) then (f x ((r.drop 1).take (r.getD 0 0)) c).bind (runE f k ((r.drop 1).drop (r.getD 0 0))) else none
/-- What f makes of all that stands in bs, one by one. -/
def eachC {S : Type} (f : Nat → List Nat → S → Option S) (bs : List Nat) (c : S) : Option S := runE f bs.length bs c
theorem runE_more {S : Type} (f : Nat → List Nat → S → Option S) : ∀ (k : Nat) (bs : List Nat) (c : S), bs.length ≤ k → ∀ d, runE f (k + d) bs c = runE f k bs c
  | k, [], c, _, d => by cases k <;> cases d <;> rfl
  | 0, x :: r, c, h, d => by simp at h
  | k + 1, x :: r, c, h, d => by
    rw [show k + 1 + d = (k + d) + 1 from by omega, runE, runE]
    have e : runE f (k + d) ((r.drop 1).drop (r.getD 0 0)) = runE f k ((r.drop 1).drop (r.getD 0 0)) := by
      funext c2
      exact runE_more f k _ c2 (by simp only [List.length_drop, List.length_cons] at *; omega) d
    rw [e]
theorem eachC_end {S : Type} (f : Nat → List Nat → S → Option S) (c : S) : eachC f [] c = some c := rfl
theorem eachC_no {S : Type} {f : Nat → List Nat → S → Option S} {bs : List Nat} {c : S} (h0 : bs ≠ []) (h : okE bs = false) : eachC f bs c = none := by
  cases bs with
  | nil => exact absurd rfl h0
  | cons x r => unfold eachC; rw [List.length_cons, runE, h]; rfl
theorem eachC_go {S : Type} {f : Nat → List Nat → S → Option S} {bs : List Nat} {c : S} (h : okE bs = true) :
    eachC f bs c = (f (bs.getD 0 0) ((bs.drop 2).take (bs.getD 1 0)) c).bind (eachC f (bs.drop (2 + bs.getD 1 0))) := by
  cases bs with
  | nil => simp [okE] at h
  | cons x r =>
    unfold eachC
    rw [List.length_cons, runE, if_pos h]
    have e : runE f r.length ((r.drop 1).drop (r.getD 0 0)) = runE f ((x :: r).drop (2 + (x :: r).getD 1 0)).length ((x :: r).drop (2 + (x :: r).getD 1 0)) := by
      funext c2
      have e1 : (r.drop 1).drop (r.getD 0 0) = (x :: r).drop (2 + (x :: r).getD 1 0) := by
        rw [List.drop_drop, show 2 + (x :: r).getD 1 0 = (1 + r.getD 0 0) + 1 from by simp; omega, List.drop_succ_cons]
      rw [e1]
      have e2 : ((x :: r).drop (2 + (x :: r).getD 1 0)).length ≤ r.length := by simp only [List.length_drop, List.length_cons]; omega
      obtain ⟨d, hd⟩ := Nat.le.dest e2
      rw [← hd]
      exact runE_more f _ _ c2 (Nat.le_refl _) d
    rw [e]
    rfl
theorem okE_tlv (k : Nat) (v rest : List Nat) : okE (tlv k v ++ rest) = true := by
  unfold okE tlv
  simp
  omega
theorem eachC_tlv {S : Type} (f : Nat → List Nat → S → Option S) (k : Nat) (v rest : List Nat) (c : S) : eachC f (tlv k v ++ rest) c = (f k v c).bind (eachC f rest) := by
  rw [eachC_go (okE_tlv k v rest)]
  have e0 : (tlv k v ++ rest).getD 0 0 = k := rfl
  have e1 : (tlv k v ++ rest).getD 1 0 = v.length := rfl
  have e2 : (tlv k v ++ rest).drop 2 = v ++ rest := rfl
  have e3 : (tlv k v ++ rest).drop (2 + v.length) = rest := by rw [← List.drop_drop, e2, List.drop_left' rfl]
  rw [e0, e1, e2, e3, List.take_left' rfl]
/-- Types and values. -/
def pairs (bs : List Nat) : Option (List (Nat × List Nat)) := eachC (fun k v l => some (l ++ [(k, v)])) bs []
def foldE {S : Type} (f : Nat → List Nat → S → Option S) : List (Nat × List Nat) → S → Option S
  | [], c => some c
  | p :: l, c => (f p.1 p.2 c).bind (foldE f l)
theorem foldE_app {S : Type} (f : Nat → List Nat → S → Option S) (l r : List (Nat × List Nat)) (c : S) : foldE f (l ++ r) c = (foldE f l c).bind (foldE f r) := by
  induction l generalizing c with
  | nil => rfl
  | cons p l ih =>
    simp only [List.cons_append, foldE]
    cases f p.1 p.2 c with
    | none => rfl
    | some d => exact ih d
/-- One by one, or cut first. -/
theorem each_pairs {S : Type} (f : Nat → List Nat → S → Option S) : ∀ (n : Nat) (bs : List Nat) (l : List (Nat × List Nat)) (c : S), bs.length ≤ n →
    (foldE f l c).bind (eachC f bs) = (eachC (fun k v (l : List (Nat × List Nat)) => some (l ++ [(k, v)])) bs l).bind fun l2 => foldE f l2 c
  | n, bs, l, c, hn => by
    by_cases h0 : bs = []
    · subst h0
      rw [eachC_end]
      show _ = foldE f l c
      cases foldE f l c <;> rfl
    · cases ho : okE bs with
      | false =>
        rw [eachC_no h0 ho]
        cases h : foldE f l c with
        | none => rfl
        | some d => show eachC f bs d = none; rw [eachC_no h0 ho]
      | true =>
        have hl : (bs.drop (2 + bs.getD 1 0)).length < bs.length := by
          have h1 : 2 ≤ bs.length := (of_decide_eq_true ho).1
          rw [List.length_drop]; omega
        cases n with
        | zero => simp only [Nat.le_zero] at hn; omega
        | succ n =>
          have ih := each_pairs f n (bs.drop (2 + bs.getD 1 0)) (l ++ [(bs.getD 0 0, (bs.drop 2).take (bs.getD 1 0))]) c (by omega)
          rw [eachC_go ho]
          show _ = (eachC _ _ _).bind _
          rw [← ih, foldE_app]
          cases h : foldE f l c with
          | none => rfl
          | some d =>
            show eachC f bs d = (foldE f [_] d).bind _
            rw [eachC_go ho]
            show _ = ((f _ _ d).bind (foldE f [])).bind _
            cases f (bs.getD 0 0) ((bs.drop 2).take (bs.getD 1 0)) d <;> rfl
theorem eachC_cut {S : Type} (f : Nat → List Nat → S → Option S) (bs : List Nat) (c : S) : eachC f bs c = (pairs bs).bind fun l => foldE f l c := each_pairs f bs.length bs [] c (Nat.le_refl _)
/-- What holds of each that is made holds of the last. -/
theorem eachC_inv {S : Type} (f : Nat → List Nat → S → Option S) (P : S → Prop) (hf : ∀ k v c c2, (∀ x ∈ v, x < 256) → P c → f k v c = some c2 → P c2) : ∀ (n : Nat) (bs : List Nat) (c c2 : S), bs.length ≤ n → (∀ x ∈ bs, x < 256) → P c → eachC f bs c = some c2 → P c2
  | n, bs, c, c2, hn, hb, hP, he => by
    by_cases h0 : bs = []
    · subst h0
      rw [eachC_end] at he
      cases he
      exact hP
    · cases ho : okE bs with
      | false => rw [eachC_no h0 ho] at he; cases he
      | true =>
        have h1 : 2 ≤ bs.length := (of_decide_eq_true ho).1
        cases n with
        | zero => omega
        | succ n =>
          rw [eachC_go ho] at he
          cases hs : f (bs.getD 0 0) ((bs.drop 2).take (bs.getD 1 0)) c with
          | none => rw [hs] at he; cases he
          | some d =>
            rw [hs] at he
            exact eachC_inv f P hf n _ d c2 (by rw [List.length_drop]; omega) (fun x hx => hb x (List.mem_of_mem_drop hx)) (hf _ _ _ _ (fun x hx => hb x (List.mem_of_mem_drop (List.mem_of_mem_take hx))) hP hs) he
/-- The number of bytes, the highest first. -/
def numB (d : List Nat) : Nat := d.foldl (fun n x => n * 256 + x) 0
theorem numB_snoc (d : List Nat) (x : Nat) : numB (d ++ [x]) = numB d * 256 + x := by simp [numB]
def firstU (s : Nat) : Nat → List Nat → Option (List Nat)
  | 0, _ => none
  | k + 1, b => if b.length < s then none else if b.take 3 = [0, 1, 1] then some (b.take s) else firstU s k (b.drop s)
/-- The first family of IPv4 unicast, each of s bytes. -/
def fstU (s : Nat) (b : List Nat) : Option (List Nat) := firstU s (b.length + 1) b
theorem firstU_more (s : Nat) (hs : 0 < s) : ∀ (k : Nat) (b : List Nat), b.length < k → ∀ d, firstU s (k + d) b = firstU s k b
  | 0, b, h, d => by omega
  | k + 1, b, h, d => by
    rw [show k + 1 + d = (k + d) + 1 from by omega, firstU, firstU]
    by_cases h1 : b.length < s
    · rw [if_pos h1, if_pos h1]
    · rw [if_neg h1, if_neg h1]
      by_cases h2 : b.take 3 = [0, 1, 1]
      · rw [if_pos h2, if_pos h2]
      · rw [if_neg h2, if_neg h2]
        exact firstU_more s hs k _ (by rw [List.length_drop]; omega) d
theorem fstU_end {s : Nat} {b : List Nat} (h : b.length < s) : fstU s b = none := by unfold fstU; rw [firstU, if_pos h]
theorem fstU_hit {s : Nat} {b : List Nat} (h : ¬ b.length < s) (h3 : b.take 3 = [0, 1, 1]) : fstU s b = some (b.take s) := by unfold fstU; rw [firstU, if_neg h, if_pos h3]
theorem fstU_miss {s : Nat} {b : List Nat} (hs : 0 < s) (h : ¬ b.length < s) (h3 : b.take 3 ≠ [0, 1, 1]) : fstU s b = fstU s (b.drop s) := by
  unfold fstU
  rw [firstU, if_neg h, if_neg h3]
  have e : (b.drop s).length + 1 ≤ b.length := by rw [List.length_drop]; omega
  obtain ⟨d, hd⟩ := Nat.le.dest e
  rw [← hd]
  exact firstU_more s hs _ _ (by omega) d
def fwdOf (u : Option (List Nat)) : Bool := match u with
  | none => false
  | some l => decide (128 ≤ l.getD 3 0)
def ltCp (u : Option (List Nat)) : Nat := match u with
  | none => 0
  | some l => l.getD 4 0 * 65536 + l.getD 5 0 * 256 + l.getD 6 0
def putFour (b : List Nat) (c : Cp) : Cp := { c with four := true, as4 := (numB b : Int) }
def putGR (b : List Nat) (c : Cp) : Cp := { c with gr := true, rs := decide (128 ≤ b.getD 0 0), tm := ((b.getD 0 0 % 16 * 256 + b.getD 1 0 : Nat) : Int), fam := (fstU 4 (b.drop 2)).isSome, fwd := fwdOf (fstU 4 (b.drop 2)) }
def putLL (b : List Nat) (c : Cp) : Cp := { c with ll := (fstU 7 b).isSome, lt := (ltCp (fstU 7 b) : Int) }
/-- A capability is read. -/
def readOne (k : Nat) (b : List Nat) (c : Cp) : Option Cp :=
  if k = 65 then (if b.length = 4 ∧ numB b ≠ 0 then some (putFour b c) else none)
  else if k = 64 then (if b.length % 4 = 2 then some (putGR b c) else none)
  else if k = 71 then (if b.length % 7 = 0 then some (putLL b c) else none)
  else some c
/-- An optional parameter is read. -/
def readPar (k : Nat) (b : List Nat) (c : Cp) : Option Cp := if k = 2 then eachC readOne b c else none
/-- What bytes are the capabilities of. -/
def readC (bs : List Nat) : Option Cp := eachC readPar bs cp0
end Go.Proofs.YtkmfnafecdfedaaGreatDoor
/- Capabilities as a value; the program's Good. -/
namespace Go.Proofs.YtkmfnafecdfedaaGreatDoor
open Go.RowKit
set_option maxRecDepth 100000

/-- Capabilities as a value. -/
def capV (c : Cp) : Value := .agg #[.bool c.four, .int .i64 c.as4, .bool c.gr, .bool c.rs, .int .i64 c.tm, .bool c.fam, .bool c.fwd, .bool c.ll, .int .i64 c.lt]
/-- The box that holds them. -/
def capC (c : Cp) : Array Value := #[.bool c.four, .int .i64 c.as4, .bool c.gr, .bool c.rs, .int .i64 c.tm, .bool c.fam, .bool c.fwd, .bool c.ll, .int .i64 c.lt]
theorem below_new (w : World) (o : Obj) : Below w.heap.size w (w.alloc o) := (Below.refl _ _).alloc (Nat.le_refl _) _
set_option maxHeartbeats 800000 in
theorem isFour_any (c : Cp) (w : World) : Calls Tryz.prog 119 #[capV c] w fun e w' => e = .returned (.bool (gFour c)) ∧ Below w.heap.size w w' := by
  obtain ⟨four, as4, gr, rs, tm, fam, fwd, ll, lt⟩ := c
  cases four with
  | false =>
    have HG : Hid (gFour ⟨false, as4, gr, rs, tm, fam, fwd, ll, lt⟩ = decide (as4 = 0)) := rfl
    generalize gFour ⟨false, as4, gr, rs, tm, fam, fwd, ll, lt⟩ = g at *
    unfold capV
    go_enter Tryz.func119, Tryz.ntmps119
    go_wp2
    go_ret
    exact ⟨ret_bool (by rw [HG.out]; first | rfl | (rw [Bool.eq_iff_iff]; simp)), below_new _ _⟩
  | true =>
    have HG : Hid (gFour ⟨true, as4, gr, rs, tm, fam, fwd, ll, lt⟩ = decide (1 ≤ as4 ∧ as4 ≤ 4294967295)) := rfl
    generalize gFour ⟨true, as4, gr, rs, tm, fam, fwd, ll, lt⟩ = g at *
    unfold capV
    by_cases h1 : 1 ≤ as4
    · have HD : Hid (decide (1 ≤ as4 ∧ as4 ≤ 4294967295) = decide (as4 ≤ 4294967295)) := by show decide _ = _; rw [Bool.eq_iff_iff]; simp [h1]
      go_enter Tryz.func119, Tryz.ntmps119
      go_wp2
      go_ret
      exact ⟨ret_bool (by rw [HG.out, HD.out]), below_new _ _⟩
    · have HD : Hid (decide (1 ≤ as4 ∧ as4 ≤ 4294967295) = false) := decide_eq_false (fun h9 => h1 h9.1)
      have h2 : decide (1 ≤ as4) = false := decide_eq_false h1
      clear h1
      go_enter Tryz.func119, Tryz.ntmps119
      go_wp2
      go_ret
      exact ⟨ret_bool (by rw [HG.out, HD.out]), below_new _ _⟩
set_option maxHeartbeats 800000 in
theorem isLL_any (c : Cp) (w : World) : Calls Tryz.prog 136 #[capV c] w fun e w' => e = .returned (.bool (gLL c)) ∧ Below w.heap.size w w' := by
  obtain ⟨four, as4, gr, rs, tm, fam, fwd, ll, lt⟩ := c
  cases ll with
  | false =>
    have HG : Hid (gLL ⟨four, as4, gr, rs, tm, fam, fwd, false, lt⟩ = decide (lt = 0)) := rfl
    generalize gLL ⟨four, as4, gr, rs, tm, fam, fwd, false, lt⟩ = g at *
    unfold capV
    go_enter Tryz.func136, Tryz.ntmps136
    go_wp2
    go_ret
    exact ⟨ret_bool (by rw [HG.out]; first | rfl | (rw [Bool.eq_iff_iff]; simp)), below_new _ _⟩
  | true =>
    have HG : Hid (gLL ⟨four, as4, gr, rs, tm, fam, fwd, true, lt⟩ = decide (0 ≤ lt ∧ lt ≤ 16777215)) := rfl
    generalize gLL ⟨four, as4, gr, rs, tm, fam, fwd, true, lt⟩ = g at *
    unfold capV
    by_cases h1 : 0 ≤ lt
    · have HD : Hid (decide (0 ≤ lt ∧ lt ≤ 16777215) = decide (lt ≤ 16777215)) := by show decide _ = _; rw [Bool.eq_iff_iff]; simp [h1]
      go_enter Tryz.func136, Tryz.ntmps136
      go_wp2
      go_ret
      exact ⟨ret_bool (by rw [HG.out, HD.out]), below_new _ _⟩
    · have HD : Hid (decide (0 ≤ lt ∧ lt ≤ 16777215) = false) := decide_eq_false (fun h9 => h1 h9.1)
      have h2 : decide (0 ≤ lt) = false := decide_eq_false h1
      clear h1
      go_enter Tryz.func136, Tryz.ntmps136
      go_wp2
      go_ret
      exact ⟨ret_bool (by rw [HG.out, HD.out]), below_new _ _⟩
/-- The first half of a good graceful restart. -/
def gG1 (gr rs : Bool) (tm : Int) (fam : Bool) : Bool := gr || (!rs && decide (tm = 0) && !fam)
set_option maxHeartbeats 1600000 in
theorem isGR_no (c : Cp) (w : World) (h : gG1 c.gr c.rs c.tm c.fam = false) : Calls Tryz.prog 135 #[capV c] w fun e w' => e = .returned (.bool false) ∧ Below w.heap.size w w' := by
  obtain ⟨four, as4, gr, rs, tm, fam, fwd, ll, lt⟩ := c
  simp only at h
  unfold capV
  cases gr with
  | true => cases h
  | false =>
    cases rs with
    | true =>
      clear h
      go_enter Tryz.func135, Tryz.ntmps135
      go_wp2
      go_ret
      exact ⟨rfl, below_new _ _⟩
    | false =>
      by_cases ht : tm = 0
      · subst ht
        cases fam with
        | false => cases h
        | true =>
          clear h
          go_enter Tryz.func135, Tryz.ntmps135
          go_wp2
          go_ret
          exact ⟨rfl, below_new _ _⟩
      · have ht2 : (tm != 0) = true := by simpa using ht
        clear h
        go_enter Tryz.func135, Tryz.ntmps135
        go_wp2
        go_ret
        exact ⟨rfl, below_new _ _⟩
set_option maxHeartbeats 1600000 in
theorem isGR_tail (c : Cp) (w : World) (h : gG1 c.gr c.rs c.tm c.fam = true) : Calls Tryz.prog 135 #[capV c] w fun e w' => e = .returned (.bool (decide (0 ≤ c.tm ∧ c.tm ≤ 4095) && (c.fam || !c.fwd))) ∧ Below w.heap.size w w' := by
  obtain ⟨four, as4, gr, rs, tm, fam, fwd, ll, lt⟩ := c
  simp only at h
  simp only
  unfold capV
  cases gr with
  | false =>
    have h2 : rs = false ∧ tm = 0 ∧ fam = false := by unfold gG1 at h; simpa [and_assoc] using h
    obtain ⟨rfl, rfl, rfl⟩ := h2
    clear h
    go_enter Tryz.func135, Tryz.ntmps135
    go_wp2
    go_ret
    exact ⟨ret_bool (by cases fwd <;> rfl), below_new _ _⟩
  | true =>
    clear h
    by_cases h1 : 0 ≤ tm
    · by_cases h2 : tm ≤ 4095
      · have HD : Hid (decide (0 ≤ tm ∧ tm ≤ 4095) = true) := decide_eq_true ⟨h1, h2⟩
        generalize decide (0 ≤ tm ∧ tm ≤ 4095) = dd at *
        cases fam with
        | true =>
          go_enter Tryz.func135, Tryz.ntmps135
          go_wp2
          go_ret
          exact ⟨ret_bool (by rw [HD.out]; rfl), below_new _ _⟩
        | false =>
          go_enter Tryz.func135, Tryz.ntmps135
          go_wp2
          go_ret
          exact ⟨ret_bool (by rw [HD.out]; cases fwd <;> rfl), below_new _ _⟩
      · have HD : Hid (decide (0 ≤ tm ∧ tm ≤ 4095) = false) := decide_eq_false (fun h9 => h2 h9.2)
        generalize decide (0 ≤ tm ∧ tm ≤ 4095) = dd at *
        have h3 : decide (tm ≤ 4095) = false := decide_eq_false h2
        clear h2
        go_enter Tryz.func135, Tryz.ntmps135
        go_wp2
        go_ret
        exact ⟨ret_bool (by rw [HD.out]; rfl), below_new _ _⟩
    · have HD : Hid (decide (0 ≤ tm ∧ tm ≤ 4095) = false) := decide_eq_false (fun h9 => h1 h9.1)
      generalize decide (0 ≤ tm ∧ tm ≤ 4095) = dd at *
      have h3 : decide (0 ≤ tm) = false := decide_eq_false h1
      clear h1
      go_enter Tryz.func135, Tryz.ntmps135
      go_wp2
      go_ret
      exact ⟨ret_bool (by rw [HD.out]; rfl), below_new _ _⟩
theorem isGR_any (c : Cp) (w : World) : Calls Tryz.prog 135 #[capV c] w fun e w' => e = .returned (.bool (gGR c)) ∧ Below w.heap.size w w' := by
  have e : gGR c = (gG1 c.gr c.rs c.tm c.fam && (decide (0 ≤ c.tm ∧ c.tm ≤ 4095) && (c.fam || !c.fwd))) := rfl
  rw [e]
  cases h : gG1 c.gr c.rs c.tm c.fam with
  | true => exact isGR_tail c w h
  | false => exact isGR_no c w h
set_option maxHeartbeats 1600000 in
theorem goodc_any (c : Cp) (w : World) : Calls Tryz.prog 105 #[capV c] w fun e w' => e = .returned (.bool (goodC c)) ∧ Below w.heap.size w w' := by
  have HE : Hid (goodC c = (gFour c && gGR c && gLL c)) := rfl
  have H1 := hide (fun W => isFour_any c W)
  have H2 := hide (fun W => isGR_any c W)
  have H3 := hide (fun W => isLL_any c W)
  generalize goodC c = g at *
  generalize gFour c = g1 at *
  generalize gGR c = g2 at *
  generalize gLL c = g3 at *
  obtain ⟨four, as4, gr, rs, tm, fam, fwd, ll, lt⟩ := c
  unfold capV at *
  simp only at *
  go_enter Tryz.func105, Tryz.ntmps105
  go_wp2_with fail
  refine (H1.out _).mono ?_
  rintro e w1 ⟨rfl, hb1⟩
  have HB1 : Hid (Below w.heap.size w w1) := (below_new w _).trans (hb1.mono (below_new w _).size)
  have k : ∀ j, w1.cell? ⟨w.heap.size, j, none⟩ = (w.alloc (.cells #[.bool four, .int .i64 as4, .bool gr, .bool rs, .int .i64 tm, .bool fam, .bool fwd, .bool ll, .int .i64 lt] 26)).cell? ⟨w.heap.size, j, none⟩ := fun j => hb1.cell (p := ⟨w.heap.size, j, none⟩) (by simp)
  have KB : Hid (∀ X, Below w1.heap.size w1 X → X.cell? ⟨w.heap.size, 0, none⟩ = some (.bool four) ∧ X.cell? ⟨w.heap.size, 1, none⟩ = some (.int .i64 as4) ∧ X.cell? ⟨w.heap.size, 2, none⟩ = some (.bool gr) ∧ X.cell? ⟨w.heap.size, 3, none⟩ = some (.bool rs) ∧ X.cell? ⟨w.heap.size, 4, none⟩ = some (.int .i64 tm) ∧ X.cell? ⟨w.heap.size, 5, none⟩ = some (.bool fam) ∧ X.cell? ⟨w.heap.size, 6, none⟩ = some (.bool fwd) ∧ X.cell? ⟨w.heap.size, 7, none⟩ = some (.bool ll) ∧ X.cell? ⟨w.heap.size, 8, none⟩ = some (.int .i64 lt)) := fun X hb => by
    have k2 : ∀ j, X.cell? ⟨w.heap.size, j, none⟩ = w1.cell? ⟨w.heap.size, j, none⟩ := fun j => hb.cell (p := ⟨w.heap.size, j, none⟩) (Nat.lt_of_lt_of_le (by simp) hb1.size)
    simp only [k2, k]
    refine ⟨?_, ?_, ?_, ?_, ?_, ?_, ?_, ?_, ?_⟩ <;> simp [go_sem]
  clear hb1 k
  obtain ⟨x0, x1, x2, x3, x4, x5, x6, x7, x8⟩ := KB.out w1 (Below.refl _ _)
  cases g1 with
  | false =>
    go_wp2
    go_ret
    exact ⟨ret_bool (by rw [HE.out]; rfl), HB1.out⟩
  | true =>
    go_wp2_with fail
    refine (H2.out _).mono ?_
    rintro e w2 ⟨rfl, hb2⟩
    have HB2 : Hid (Below w.heap.size w w2) := HB1.out.trans (hb2.mono HB1.out.size)
    clear x0 x1 x2 x3 x4 x5 x6 x7 x8
    obtain ⟨x0, x1, x2, x3, x4, x5, x6, x7, x8⟩ := KB.out w2 hb2
    clear hb2
    cases g2 with
    | false =>
      go_wp2
      go_ret
      exact ⟨ret_bool (by rw [HE.out]; rfl), HB2.out⟩
    | true =>
      go_wp2_with fail
      refine (H3.out _).mono ?_
      rintro e w3 ⟨rfl, hb3⟩
      have HB3 : Hid (Below w.heap.size w w3) := HB2.out.trans (hb3.mono HB2.out.size)
      clear hb3
      go_wp2
      go_ret
      exact ⟨ret_bool (by rw [HE.out]; rfl), HB3.out⟩
end Go.Proofs.YtkmfnafecdfedaaGreatDoor
