/- What bytes are the attributes of, in plain numbers. Nothing of the program is named here. -/
import Derived.Test.YtempaadgheondaaDoorHOn2
import Derived.Test.YtempaadgheondaaDoorHOwn
import Derived.Test.YtempaadgheondaaDoorPthEn
namespace Go.Proofs.YtempaadgheondaaDoor
open Go.RowKit
set_option maxRecDepth 100000

/-- A note, or attributes. -/
abbrev Res : Type := (Nat × Nat × List Nat) ⊕ At
/-- Go on, if nothing is wrong. -/
def thenA (r : Res) (f : At → Res) : Res :=
  match r with
  | .inl n => .inl n
  | .inr a => f a
theorem thenA_no (n : Nat × Nat × List Nat) (f : At → Res) : thenA (.inl n) f = .inl n := rfl
theorem thenA_go (a : At) (f : At → Res) : thenA (.inr a) f = f a := rfl
theorem thenA_congr (r : Res) (f g : At → Res) (h : ∀ a, f a = g a) : thenA r f = thenA r g := by
  cases r with
  | inl n => rfl
  | inr a => exact h a
/-- The flags that a type has. -/
def wantF (ty : Nat) : Nat := if ty = 4 then 128 else if ty = 7 ∨ ty = 8 then 192 else 64
/-- The number of four bytes. -/
def numL (d : List Nat) : Nat := num (fun q => d.getD q 0)
/-- The numbers of bytes, four each. -/
def numsL (d : List Nat) : List Nat := (List.range (d.length / 4)).map fun k => num (fun q => d.getD (4 * k + q) 0)
/-- A Raw at its place. -/
def insR (r : Int × Int × List Nat) : List (Int × Int × List Nat) → List (Int × Int × List Nat)
  | [] => [r]
  | x :: l => if r.2.1 < x.2.1 then r :: x :: l else x :: insR r l
/-- Is its length wrong? -/
def sizeBad (ty : Nat) (d : List Nat) : Bool := decide (ty = 1 ∧ d.length ≠ 1 ∨ (ty = 3 ∨ ty = 4 ∨ ty = 5) ∧ d.length ≠ 4 ∨ ty = 6 ∧ d.length ≠ 0 ∨ ty = 7 ∧ d.length ≠ 8 ∨ ty = 8 ∧ (d.length = 0 ∨ d.length % 4 ≠ 0))
/-- An attribute of types 1 to 8. -/
def knownA (a : At) (fl ty : Nat) (d all : List Nat) : Res :=
  if fl / 64 * 64 ≠ wantF ty ∨ fl / 32 % 2 = 1 ∧ ty < 7 then .inl (3, 4, all)
  else if sizeBad ty d then .inl (3, 5, all)
  else if ty = 1 then if 2 < d.getD 0 0 then .inl (3, 6, all) else .inr { a with origin := ((d.getD 0 0 : Nat) : Int) }
  else if ty = 2 then match segsRun (fun q => d.getD q 0) d.length 0 [] with
    | none => .inl (3, 11, [])
    | some p => .inr { a with path := p }
  else if ty = 3 then if hopB (numL d) then .inr { a with next := numL d } else .inl (3, 8, all)
  else if ty = 4 then .inr { a with med := ((numL d : Nat) : Int) }
  else if ty = 5 then .inr { a with pref := ((numL d : Nat) : Int) }
  else if ty = 8 then if 128 < d.length then .inl (3, 9, all) else .inr { a with comms := a.comms ++ numsL d }
  else .inr { a with raws := insR (((wantF ty : Nat) : Int), ((ty : Nat) : Int), d) a.raws }
/-- An attribute. -/
def applyA (a : At) (fl ty : Nat) (d all : List Nat) : Res :=
  if 1 ≤ ty ∧ ty ≤ 8 then knownA a fl ty d all
  else if fl < 128 then .inl (3, 2, all)
  else if fl / 64 % 2 = 0 then .inr a
  else if 255 < d.length then .inl (3, 9, all)
  else if 8 < ty then .inr { a with raws := insR (224, ((ty : Nat) : Int), d) a.raws }
  else .inr a
/-- How many bytes stand ahead of an attribute's own. -/
def headL (b0 : Nat) : Nat := if b0 / 16 % 2 = 1 then 4 else 3
/-- How many its own are. -/
def sizeL (bs : List Nat) : Nat := if bs.getD 0 0 / 16 % 2 = 1 then 256 * bs.getD 2 0 + bs.getD 3 0 else bs.getD 2 0
/-- Do flags, type and length fit, and is the type a new one? -/
def fitsL (bs seen : List Nat) : Bool := decide (headL (bs.getD 0 0) ≤ bs.length ∧ headL (bs.getD 0 0) + sizeL bs ≤ bs.length ∧ bs.getD 1 0 ∉ seen)
/-- At the end. -/
def finA (a : At) (seen : List Nat) : Res := if 1 ∉ seen then .inl (3, 3, [1]) else if 2 ∉ seen then .inl (3, 3, [2]) else if 3 ∉ seen then .inl (3, 3, [3]) else .inr a
def fuelA : Nat → List Nat → At → List Nat → Res
  | 0, _, a, seen => finA a seen
  | k + 1, bs, a, seen =>
    if bs = [] then finA a seen
    else if fitsL bs seen then
      thenA (applyA a (bs.getD 0 0) (bs.getD 1 0) ((bs.drop (headL (bs.getD 0 0))).take (sizeL bs)) (bs.take (headL (bs.getD 0 0) + sizeL bs))) fun a' => fuelA k (bs.drop (headL (bs.getD 0 0) + sizeL bs)) a' (bs.getD 1 0 :: seen)
    else .inl (3, 1, [])
theorem headL_pos (b0 : Nat) : 3 ≤ headL b0 := by unfold headL; split <;> omega
theorem fuelA_end (a : At) (seen : List Nat) : ∀ k, fuelA k [] a seen = finA a seen
  | 0 => rfl
  | k + 1 => by rw [fuelA, if_pos rfl]
theorem fuelA_more : ∀ (k : Nat) (bs : List Nat) (a : At) (seen : List Nat), bs.length ≤ k → ∀ d, fuelA (k + d) bs a seen = fuelA k bs a seen
  | 0, bs, a, seen, h, d => by
    have h0 : bs = [] := List.length_eq_zero_iff.1 (by omega)
    subst h0
    rw [fuelA_end, fuelA_end]
  | k + 1, bs, a, seen, h, d => by
    rw [show k + 1 + d = (k + d) + 1 from by omega, fuelA, fuelA]
    by_cases h0 : bs = []
    · rw [if_pos h0, if_pos h0]
    · rw [if_neg h0, if_neg h0]
      by_cases hf : fitsL bs seen = true
      · rw [if_pos hf, if_pos hf]
        refine thenA_congr _ _ _ (fun a' => fuelA_more k _ _ _ ?_ d)
        have := headL_pos (bs.getD 0 0)
        rw [List.length_drop]
        have : 0 < bs.length := List.length_pos_iff.2 h0
        omega
      · rw [if_neg hf, if_neg hf]
/-- What the bytes bs are, behind what was read. -/
def runA (bs : List Nat) (a : At) (seen : List Nat) : Res := fuelA bs.length bs a seen
theorem runA_end (a : At) (seen : List Nat) : runA [] a seen = finA a seen := rfl
theorem runA_no {bs : List Nat} {a : At} {seen : List Nat} (h0 : bs ≠ []) (h : fitsL bs seen = false) : runA bs a seen = .inl (3, 1, []) := by
  unfold runA
  have hp : 0 < bs.length := List.length_pos_iff.2 h0
  obtain ⟨n, hn⟩ : ∃ n, bs.length = n + 1 := ⟨bs.length - 1, by omega⟩
  rw [hn, fuelA, if_neg h0, if_neg (by simp [h])]
theorem runA_go {bs : List Nat} {a : At} {seen : List Nat} (h0 : bs ≠ []) (h : fitsL bs seen = true) : runA bs a seen =
    thenA (applyA a (bs.getD 0 0) (bs.getD 1 0) ((bs.drop (headL (bs.getD 0 0))).take (sizeL bs)) (bs.take (headL (bs.getD 0 0) + sizeL bs))) fun a' => runA (bs.drop (headL (bs.getD 0 0) + sizeL bs)) a' (bs.getD 1 0 :: seen) := by
  have hp : 0 < bs.length := List.length_pos_iff.2 h0
  have hh := headL_pos (bs.getD 0 0)
  unfold runA
  obtain ⟨n, hn⟩ : ∃ n, bs.length = n + 1 := ⟨bs.length - 1, by omega⟩
  rw [hn, fuelA, if_neg h0, if_pos h]
  refine thenA_congr _ _ _ (fun a' => ?_)
  have hl : (bs.drop (headL (bs.getD 0 0) + sizeL bs)).length ≤ n := by rw [List.length_drop]; omega
  have := fuelA_more _ (bs.drop (headL (bs.getD 0 0) + sizeL bs)) a' (bs.getD 1 0 :: seen) (Nat.le_refl _) (n - (bs.drop (headL (bs.getD 0 0) + sizeL bs)).length)
  rw [show (bs.drop (headL (bs.getD 0 0) + sizeL bs)).length + (n - (bs.drop (headL (bs.getD 0 0) + sizeL bs)).length) = n from by omega] at this
  exact this
/-- What bytes are the attributes of. -/
def readA (bs : List Nat) : Res := runA bs ⟨0, [], 0, -1, -1, [], []⟩ []
/-- The first attribute, whose length has one byte. -/
theorem runA_short (fl ty : Nat) (d rest : List Nat) (a : At) (seen : List Nat) (hf : fl / 16 % 2 = 0) (hs : ty ∉ seen) :
    runA ([fl, ty, d.length] ++ d ++ rest) a seen = thenA (applyA a fl ty d ([fl, ty, d.length] ++ d)) fun a' => runA rest a' (ty :: seen) := by
  have e0 : ([fl, ty, d.length] ++ d ++ rest).getD 0 0 = fl := rfl
  have e1 : ([fl, ty, d.length] ++ d ++ rest).getD 1 0 = ty := rfl
  have e2 : ([fl, ty, d.length] ++ d ++ rest).getD 2 0 = d.length := rfl
  have hh : headL fl = 3 := by unfold headL; rw [if_neg (by omega)]
  have hz : sizeL ([fl, ty, d.length] ++ d ++ rest) = d.length := by unfold sizeL; rw [e0, e2, if_neg (by omega)]
  have hfit : fitsL ([fl, ty, d.length] ++ d ++ rest) seen = true := by
    unfold fitsL
    rw [e0, e1, hz, hh]
    refine decide_eq_true ⟨?_, ?_, hs⟩ <;> simp <;> omega
  rw [runA_go (by simp) hfit, e0, e1, hz, hh]
  have h1 : (([fl, ty, d.length] ++ d ++ rest).drop 3).take d.length = d := by simp
  have h2 : ([fl, ty, d.length] ++ d ++ rest).take (3 + d.length) = [fl, ty, d.length] ++ d := by
    rw [show 3 + d.length = ([fl, ty, d.length] ++ d).length from by simp; omega, List.take_left]
  have h3 : ([fl, ty, d.length] ++ d ++ rest).drop (3 + d.length) = rest := by
    rw [show 3 + d.length = ([fl, ty, d.length] ++ d).length from by simp; omega, List.drop_left]
  rw [h1, h2, h3]
/-- The first attribute, whose length has two bytes. -/
theorem runA_long (fl ty : Nat) (d rest : List Nat) (a : At) (seen : List Nat) (hf : fl / 16 % 2 = 1) (hs : ty ∉ seen) :
    runA ([fl, ty, d.length / 256, d.length % 256] ++ d ++ rest) a seen = thenA (applyA a fl ty d ([fl, ty, d.length / 256, d.length % 256] ++ d)) fun a' => runA rest a' (ty :: seen) := by
  have e0 : ([fl, ty, d.length / 256, d.length % 256] ++ d ++ rest).getD 0 0 = fl := rfl
  have e1 : ([fl, ty, d.length / 256, d.length % 256] ++ d ++ rest).getD 1 0 = ty := rfl
  have e2 : ([fl, ty, d.length / 256, d.length % 256] ++ d ++ rest).getD 2 0 = d.length / 256 := rfl
  have e3 : ([fl, ty, d.length / 256, d.length % 256] ++ d ++ rest).getD 3 0 = d.length % 256 := rfl
  have hh : headL fl = 4 := by unfold headL; rw [if_pos hf]
  have hz : sizeL ([fl, ty, d.length / 256, d.length % 256] ++ d ++ rest) = d.length := by unfold sizeL; rw [e0, e2, e3, if_pos hf]; omega
  have hfit : fitsL ([fl, ty, d.length / 256, d.length % 256] ++ d ++ rest) seen = true := by
    unfold fitsL
    rw [e0, e1, hz, hh]
    refine decide_eq_true ⟨?_, ?_, hs⟩ <;> simp <;> omega
  rw [runA_go (by simp) hfit, e0, e1, hz, hh]
  have h1 : (([fl, ty, d.length / 256, d.length % 256] ++ d ++ rest).drop 4).take d.length = d := by simp
  have h2 : ([fl, ty, d.length / 256, d.length % 256] ++ d ++ rest).take (4 + d.length) = [fl, ty, d.length / 256, d.length % 256] ++ d := by
    rw [show 4 + d.length = ([fl, ty, d.length / 256, d.length % 256] ++ d).length from by simp; omega, List.take_left]
  have h3 : ([fl, ty, d.length / 256, d.length % 256] ++ d ++ rest).drop (4 + d.length) = rest := by
    rw [show 4 + d.length = ([fl, ty, d.length / 256, d.length % 256] ++ d).length from by simp; omega, List.drop_left]
  rw [h1, h2, h3]
/-- The first attribute as it is written. -/
theorem runA_one (fl ty : Nat) (d rest : List Nat) (a : At) (seen : List Nat) (hf : fl / 16 % 2 = 0) (hs : ty ∉ seen) :
    runA (oneB fl ty d ++ rest) a seen = thenA (applyA a (if 255 < d.length then fl + 16 else fl) ty d (oneB fl ty d)) fun a' => runA rest a' (ty :: seen) := by
  unfold oneB
  by_cases h : 255 < d.length
  · rw [if_pos h, if_pos h]
    exact runA_long (fl + 16) ty d rest a seen (by omega) hs
  · rw [if_neg h, if_neg h]
    exact runA_short fl ty d rest a seen hf hs
/-- One that stands twice. -/
theorem runA_twice (fl ty : Nat) (d rest : List Nat) (a : At) (seen : List Nat) (hs : ty ∈ seen) : runA (oneB fl ty d ++ rest) a seen = .inl (3, 1, []) := by
  have hne : oneB fl ty d ++ rest ≠ [] := by
    intro e
    have h1 := oneB_pos fl ty d
    rw [List.append_eq_nil_iff] at e
    rw [e.1] at h1
    simp at h1
  refine runA_no hne ?_
  unfold fitsL
  refine decide_eq_false (fun h => h.2.2 ?_)
  have e1 : (oneB fl ty d ++ rest).getD 1 0 = ty := by
    unfold oneB
    split <;> rfl
  rw [e1]
  exact hs
end Go.Proofs.YtempaadgheondaaDoor
/- A path's bytes are read again as that path, in plain numbers. -/
namespace Go.Proofs.YtempaadgheondaaDoor
open Go.RowKit
set_option maxRecDepth 100000

theorem numsAt_cons (f : Nat → Nat) (j n : Nat) : numsAt f j (n + 1) = ((num (fun q => f (j + q)) : Nat) : Int) :: numsAt f (j + 4) n := by
  simp only [numsAt, List.range_succ_eq_map, List.map_cons, List.map_map, Nat.mul_zero, Nat.add_zero]
  refine congrArg _ (List.map_congr_left fun k _ => ?_)
  show ((num (fun q => f (j + 4 * (k + 1) + q)) : Nat) : Int) = ((num (fun q => f (j + 4 + 4 * k + q)) : Nat) : Int)
  rw [show (fun q => f (j + 4 * (k + 1) + q)) = (fun q => f (j + 4 + 4 * k + q)) from funext fun q => by rw [show j + 4 * (k + 1) + q = j + 4 + 4 * k + q from by omega]]
/-- Four bytes of a number are that number. -/
theorem num_b4 (f : Nat → Nat) (z : Int) (hz : okN z = true) (h : ∀ q, q < 4 → f q = (b4 z).getD q 0) : ((num f : Nat) : Int) = z := by
  have hz2 := of_decide_eq_true hz
  have h4 : ∀ q, q < 4 → f (0 + q) = byteAt z.toNat q := fun q hq => by
    rw [Nat.zero_add, h q hq]
    simp [b4, List.getD_eq_getElem?_getD, hq]
  rw [num_up, numUp_bytes z.toNat 4 (Nat.le_refl _) f 0 h4 (by omega)]
  simp
  omega
theorem numsAt_nums (zs : List Int) (hz : ∀ z ∈ zs, okN z = true) : ∀ (f : Nat → Nat) (j : Nat), (∀ q, q < 4 * zs.length → f (j + q) = (nums zs).getD q 0) → numsAt f j zs.length = zs := by
  induction zs with
  | nil => intro f j _; rfl
  | cons z zs ih =>
    intro f j h
    rw [List.length_cons, numsAt_cons, num_b4 (fun q => f (j + q)) z (hz z (List.mem_cons_self ..)) (fun q hq => ?_), ih (fun x hx => hz x (List.mem_cons_of_mem _ hx)) f (j + 4) (fun q hq => ?_)]
    · rw [show j + 4 + q = j + (4 + q) from by omega, h (4 + q) (by simp only [List.length_cons]; omega)]
      simp only [nums, List.getD_eq_getElem?_getD]
      rw [List.getElem?_append_right (by rw [b4_length]; omega), b4_length, show 4 + q - 4 = q from by omega]
    · show f (j + q) = _
      rw [h q (by simp only [List.length_cons]; omega)]
      simp only [nums, List.getD_eq_getElem?_getD]
      rw [List.getElem?_append_left (by rw [b4_length]; exact hq)]
theorem encSeg_length (s : Bool × List Int) : (encSeg s).length = 2 + 4 * s.2.length := by
  simp only [encSeg, List.length_append, nums_length, List.length_cons, List.length_nil]
theorem okS_parts {s : Bool × List Int} (h : okS s = true) : 1 ≤ s.2.length ∧ s.2.length ≤ 255 ∧ ∀ z ∈ s.2, okN z = true := by
  unfold okS at h
  rw [Bool.and_eq_true] at h
  have h2 := of_decide_eq_true h.1
  exact ⟨h2.1, h2.2, fun z hz => List.all_eq_true.1 h.2 z hz⟩
theorem segs_enc (l : List (Bool × List Int)) (hl : ∀ s ∈ l, okS s = true) : ∀ (pre : List Nat) (acc : List (Bool × List Int)), segsRun (fun i => (pre ++ encSegs l).getD i 0) (pre ++ encSegs l).length pre.length acc = fin (acc ++ l) := by
  induction l with
  | nil => intro pre acc; rw [segsRun_end (by simp [encSegs])]; simp
  | cons s l ih =>
    intro pre acc
    obtain ⟨h1, h2, h3⟩ := okS_parts (hl s (List.mem_cons_self ..))
    have e2 : pre ++ encSegs (s :: l) = pre ++ encSeg s ++ encSegs l := by simp [encSegs]
    have hle := encSeg_length s
    have gq : ∀ q, q < (encSeg s).length → (pre ++ encSeg s ++ encSegs l).getD (pre.length + q) 0 = (encSeg s).getD q 0 := fun q hq => getD_app pre (encSeg s) (encSegs l) q hq
    rw [e2]
    have hi2 : pre.length + 2 + 4 * s.2.length ≤ (pre ++ encSeg s ++ encSegs l).length := by simp only [List.length_append]; omega
    have hnext := ih (fun x hx => hl x (List.mem_cons_of_mem _ hx)) (pre ++ encSeg s) (acc ++ [s])
    rw [show (pre ++ encSeg s).length = pre.length + 2 + 4 * s.2.length from by rw [List.length_append]; omega] at hnext
    generalize hG : (fun i => (pre ++ encSeg s ++ encSegs l).getD i 0) = G at *
    have Gq : ∀ q, q < (encSeg s).length → G (pre.length + q) = (encSeg s).getD q 0 := fun q hq => by rw [← hG]; exact gq q hq
    have G0 : G pre.length = kindOf s.1 := by have := Gq 0 (by omega); simpa [encSeg] using this
    have G1 : G (pre.length + 1) = s.2.length := by have := Gq 1 (by omega); simpa [encSeg] using this
    have GN : numsAt G (pre.length + 2) s.2.length = s.2 := numsAt_nums s.2 h3 G _ (fun q hq => by
      have := Gq (2 + q) (by omega)
      rw [show pre.length + (2 + q) = pre.length + 2 + q from by omega] at this
      rw [this]
      simp only [encSeg, List.getD_eq_getElem?_getD]
      rw [List.getElem?_append_right (by simp), show 2 + q - [kindOf s.1, s.2.length].length = q from by simp])
    have hseg : segAt G pre.length = s := by
      unfold segAt
      rw [G0, G1, GN]
      cases s with
      | mk b zs => cases b <;> rfl
    have hk : kindOf s.1 = 1 ∨ kindOf s.1 = 2 := by
      cases s with
      | mk b zs => cases b <;> simp [kindOf]
    rw [segsRun_go (by omega) (by unfold segOk; exact decide_eq_true (by rw [G0, G1]; exact ⟨by omega, hk, hi2⟩)), hseg, G1, hnext]
    simp
/-- The bytes of a good path are that path's. -/
theorem enc_back {ss : List (Bool × List Int)} (h : goodP ss = true) : segsRun (fun i => (encSegs ss).getD i 0) (encSegs ss).length 0 [] = some ss := by
  have hok : ∀ s ∈ ss, okS s = true := by
    unfold goodP at h
    rw [Bool.and_eq_true] at h
    exact fun s hs => List.all_eq_true.1 h.1 s hs
  have := segs_enc ss hok [] []
  simp only [List.nil_append, List.length_nil] at this
  rw [this, fin, h]
  rfl
end Go.Proofs.YtempaadgheondaaDoor
/- The attributes of good attributes' bytes, in whatever order they stand, some of them or all. Nothing of the program is named here. -/
namespace Go.Proofs.YtempaadgheondaaDoor
open Go.RowKit
set_option maxRecDepth 100000

/-- A Raw as an attribute. -/
def partR (r : Int × Int × List Nat) : Nat × Nat × List Nat := (r.1.toNat, r.2.1.toNat, r.2.2)
/-- The attributes, one by one: flags, type, bytes. -/
def partsA (a : At) : List (Nat × Nat × List Nat) :=
  [(64, 1, [a.origin.toNat]), (64, 2, encSegs a.path), (64, 3, b4 (a.next : Int))] ++ (if 0 ≤ a.med then [(128, 4, b4 a.med)] else []) ++ (if 0 ≤ a.pref then [(64, 5, b4 a.pref)] else []) ++ (a.raws.filter fun r => decide (r.2.1 < 8)).map partR ++ (if 0 < a.comms.length then [(192, 8, encC a.comms)] else []) ++ (a.raws.filter fun r => decide (8 < r.2.1)).map partR
/-- Their bytes, one behind the other. -/
def flatA : List (Nat × Nat × List Nat) → List Nat
  | [] => []
  | p :: l => oneB p.1 p.2.1 p.2.2 ++ flatA l
theorem flatA_app (l r : List (Nat × Nat × List Nat)) : flatA (l ++ r) = flatA l ++ flatA r := by
  induction l with
  | nil => rfl
  | cons p l ih => rw [List.cons_append, flatA, flatA, ih, List.append_assoc]
theorem flat_lo (rs : List (Int × Int × List Nat)) : flatA ((rs.filter fun r => decide (r.2.1 < 8)).map partR) = encLo rs := by
  induction rs with
  | nil => rfl
  | cons r l ih =>
    rw [encLo, List.filter_cons]
    by_cases h : r.2.1 < 8
    · rw [if_pos (decide_eq_true h), if_pos h, List.map_cons, flatA, ih]; rfl
    · rw [if_neg (by simp [h]), if_neg h, ih]; rfl
theorem flat_hi (rs : List (Int × Int × List Nat)) : flatA ((rs.filter fun r => decide (8 < r.2.1)).map partR) = encHi rs := by
  induction rs with
  | nil => rfl
  | cons r l ih =>
    rw [encHi, List.filter_cons]
    by_cases h : 8 < r.2.1
    · rw [if_pos (decide_eq_true h), if_pos h, List.map_cons, flatA, ih]; rfl
    · rw [if_neg (by simp [h]), if_neg h, ih]; rfl
theorem flat_parts (a : At) (h : goodA a = true) : flatA (partsA a) = encA a := by
  unfold encA
  rw [if_pos h]
  unfold partsA enc123 enc45 enc8
  rw [flatA_app, flatA_app, flatA_app, flatA_app, flatA_app, flat_lo, flat_hi]
  simp only [flatA, List.append_nil, List.append_assoc]
  by_cases h1 : 0 ≤ a.med <;> by_cases h2 : 0 ≤ a.pref <;> by_cases h3 : 0 < a.comms.length <;> simp [h1, h2, h3, flatA]
/-- What is read of a, the types of seen having been read. -/
def partS (a : At) (seen : List Nat) : At :=
  ⟨if 1 ∈ seen then a.origin else 0, if 2 ∈ seen then a.path else [], if 3 ∈ seen then a.next else 0, if 4 ∈ seen then a.med else -1, if 5 ∈ seen then a.pref else -1, if 8 ∈ seen then a.comms else [], a.raws.filter fun r => decide (r.2.1.toNat ∈ seen)⟩
theorem numL_b4 (n : Nat) (h : n < 4294967296) : numL (b4 (n : Int)) = n := by
  unfold numL b4 num
  rw [Int.toNat_natCast]
  have e : List.range 4 = [0, 1, 2, 3] := rfl
  rw [e]
  simp only [List.map_cons, List.map_nil, List.getD_cons_zero, List.getD_cons_succ, byteAt]
  omega
theorem numsL_encC (cs : List Nat) (h : ∀ x ∈ cs, x < 4294967296) : numsL (encC cs) = cs := by
  unfold numsL
  rw [encC_length, show 4 * cs.length / 4 = cs.length from by omega]
  apply List.ext_getElem?
  intro i
  by_cases hi : i < cs.length
  · rw [List.getElem?_map, List.getElem?_range hi, Option.map_some, List.getElem?_eq_getElem hi]
    congr 1
    have key : ∀ (l : List Nat) (k : Nat) (hk : k < l.length), ∀ q, q < 4 → (encC l).getD (4 * k + q) 0 = (b4 ((l[k] : Nat) : Int)).getD q 0 := by
      intro l
      induction l with
      | nil => intro k hk; simp at hk
      | cons x l ih =>
        intro k hk q hq
        have e : encC (x :: l) = b4 (x : Int) ++ encC l := rfl
        rw [e]
        cases k with
        | zero =>
          rw [List.getD_eq_getElem?_getD, List.getElem?_append_left (by rw [b4_length]; omega), List.getD_eq_getElem?_getD]
          simp
        | succ k =>
          have := ih k (by simpa using hk) q hq
          rw [List.getD_eq_getElem?_getD, List.getElem?_append_right (by rw [b4_length]; omega), b4_length, show 4 * (k + 1) + q - 4 = 4 * k + q from by omega, ← List.getD_eq_getElem?_getD, this]
          simp
    have h9 := numL_b4 cs[i] (h _ (List.getElem_mem hi))
    unfold numL num at h9
    show (encC cs).getD (4 * i + 0) 0 * 16777216 + (encC cs).getD (4 * i + 1) 0 * 65536 + (encC cs).getD (4 * i + 2) 0 * 256 + (encC cs).getD (4 * i + 3) 0 = cs[i]
    rw [key cs i hi 0 (by omega), key cs i hi 1 (by omega), key cs i hi 2 (by omega), key cs i hi 3 (by omega)]
    exact h9
  · rw [List.getElem?_eq_none (by simp; omega), List.getElem?_eq_none (by omega)]
/-- Types rise. -/
theorem rawsUp_pair {rs : List (Int × Int × List Nat)} (h : rawsUp rs rs.length = true) : rs.Pairwise fun x y => x.2.1 < y.2.1 := by
  have step : ∀ n, rawsUp rs n = true → ∀ i, i + 1 < n → typAt rs i < typAt rs (i + 1) := by
    intro n
    induction n with
    | zero => intro _ i hi; omega
    | succ n ih =>
      intro h9 i hi
      rw [rawsUp, Bool.and_eq_true, Bool.and_eq_true, Bool.or_eq_true] at h9
      by_cases e : i + 1 = n
      · rcases h9.2 with h8 | h8
        · have := of_decide_eq_true h8; omega
        · have := of_decide_eq_true h8
          rw [← e] at this
          simpa using this
      · exact ih h9.1.1 i (by omega)
  have mono : ∀ d i, i + d + 1 < rs.length → typAt rs i < typAt rs (i + d + 1) := by
    intro d
    induction d with
    | zero => intro i hi; exact step _ h i (by omega)
    | succ d ih =>
      intro i hi
      have h1 := ih i (by omega)
      have h2 := step _ h (i + d + 1) (by omega)
      rw [show i + (d + 1) + 1 = i + d + 1 + 1 from by omega]
      omega
  have get : ∀ i (hi : i < rs.length), typAt rs i = (rs[i]).2.1 := fun i hi => by
    unfold typAt
    rw [List.getD_eq_getElem?_getD, List.getElem?_eq_getElem hi]; rfl
  rw [List.pairwise_iff_getElem]
  intro i j hi hj hij
  have := mono (j - i - 1) i (by omega)
  rw [show i + (j - i - 1) + 1 = j from by omega, get i hi, get j hj] at this
  exact this
theorem insR_filter (r : Int × Int × List Nat) (seen : List Nat) : ∀ rs : List (Int × Int × List Nat), (rs.Pairwise fun x y => x.2.1 < y.2.1) → (∀ x ∈ rs, 0 ≤ x.2.1) → r ∈ rs → r.2.1.toNat ∉ seen →
    insR r (rs.filter fun x => decide (x.2.1.toNat ∈ seen)) = rs.filter fun x => decide (x.2.1.toNat ∈ r.2.1.toNat :: seen)
  | [], _, _, hr, _ => by simp at hr
  | x :: l, hp, h0, hr, hs => by
    rw [List.pairwise_cons] at hp
    have hx0 := h0 x (by simp)
    by_cases e : r = x
    · subst e
      rw [List.filter_cons, if_neg (by simpa using hs), List.filter_cons, if_pos (by simp)]
      have hl : (l.filter fun y => decide (y.2.1.toNat ∈ r.2.1.toNat :: seen)) = l.filter fun y => decide (y.2.1.toNat ∈ seen) := by
        apply List.filter_congr
        intro y hy
        have h1 := hp.1 y hy
        rw [Bool.eq_iff_iff]
        simp only [decide_eq_true_eq, List.mem_cons]
        constructor
        · rintro (h2 | h2)
          · exact absurd h2 (by omega)
          · exact h2
        · exact fun h2 => .inr h2
      rw [hl]
      cases hc : l.filter fun y => decide (y.2.1.toNat ∈ seen) with
      | nil => rfl
      | cons y m =>
        have hy : y ∈ l := (List.mem_filter.1 (show y ∈ l.filter fun y => decide (y.2.1.toNat ∈ seen) by rw [hc]; simp)).1
        rw [insR, if_pos (hp.1 y hy)]
    · have hrl : r ∈ l := by
        rcases List.mem_cons.1 hr with h1 | h1
        · exact absurd h1 e
        · exact h1
      have hlt := hp.1 r hrl
      have ih := insR_filter r seen l hp.2 (fun y hy => h0 y (List.mem_cons_of_mem _ hy)) hrl hs
      rw [List.filter_cons, List.filter_cons]
      by_cases hm : x.2.1.toNat ∈ seen
      · rw [if_pos (decide_eq_true hm), if_pos (decide_eq_true (List.mem_cons_of_mem _ hm)), insR, if_neg (by omega), ih]
      · rw [if_neg (by simpa using hm), if_neg (by
          simp only [decide_eq_true_eq, List.mem_cons, not_or]
          exact ⟨by omega, hm⟩), ih]
/-- What may be asked of attributes that are read. -/
structure Fine (a : At) : Prop where
  good : goodA a = true
  next : a.next < 4294967296
  comms : ∀ x ∈ a.comms, x < 4294967296
theorem Fine.head {a : At} (h : Fine a) : (0 ≤ a.origin ∧ a.origin ≤ 2) ∧ goodP a.path = true ∧ hopB a.next = true ∧ (-1 ≤ a.med ∧ a.med ≤ 4294967295) ∧ (-1 ≤ a.pref ∧ a.pref ≤ 4294967295) ∧ a.comms.length ≤ 32 ∧ rawsUp a.raws a.raws.length = true := by
  have h9 := h.good
  unfold goodA headA at h9
  simp only [Bool.and_eq_true, decide_eq_true_eq] at h9
  obtain ⟨⟨⟨⟨⟨⟨h1, h2⟩, h3⟩, h4⟩, h5⟩, h6⟩, h7⟩ := h9
  exact ⟨h1, h2, h3, h4, h5, h6, h7⟩
theorem Fine.raw {a : At} (h : Fine a) (r : Int × Int × List Nat) (hr : r ∈ a.raws) : rawK r = true := by
  obtain ⟨i, hi, rfl⟩ := List.mem_iff_getElem.1 hr
  have := rawsUp_all _ h.head.2.2.2.2.2.2 i hi
  rwa [show a.raws.getD i (0, 0, []) = a.raws[i] from by rw [List.getD_eq_getElem?_getD, List.getElem?_eq_getElem hi]; rfl] at this
theorem Fine.ins {a : At} (h : Fine a) (r : Int × Int × List Nat) (hr : r ∈ a.raws) (seen : List Nat) (hs : r.2.1.toNat ∉ seen) : insR r (a.raws.filter fun x => decide (x.2.1.toNat ∈ seen)) = a.raws.filter fun x => decide (x.2.1.toNat ∈ r.2.1.toNat :: seen) :=
  insR_filter r seen a.raws (rawsUp_pair h.head.2.2.2.2.2.2) (fun x hx => by obtain ⟨_, ty, _, e, _⟩ := rawK_nat (h.raw x hx); omega) hr hs
/-- The Raws stay when another type is read. -/
theorem filter_other (rs : List (Int × Int × List Nat)) (t : Nat) (seen : List Nat) (h : ∀ x ∈ rs, x.2.1.toNat ≠ t) : (rs.filter fun x => decide (x.2.1.toNat ∈ t :: seen)) = rs.filter fun x => decide (x.2.1.toNat ∈ seen) := by
  apply List.filter_congr
  intro y hy
  have h1 := h y hy
  rw [Bool.eq_iff_iff]
  simp only [decide_eq_true_eq, List.mem_cons]
  constructor
  · rintro (h2 | h2)
    · exact absurd h2 h1
    · exact h2
  · exact fun h2 => .inr h2
theorem Fine.typ {a : At} (h : Fine a) (t : Nat) (ht : t < 6 ∨ t = 8) : ∀ x ∈ a.raws, x.2.1.toNat ≠ t := fun x hx => by
  obtain ⟨_, ty, _, e, _, h6, _, h8, _⟩ := rawK_nat (h.raw x hx)
  omega
/-- One attribute of a is read. -/
theorem part_step {a : At} (h : Fine a) (p : Nat × Nat × List Nat) (hp : p ∈ partsA a) (seen : List Nat) (hs : p.2.1 ∉ seen) (all : List Nat) :
    applyA (partS a seen) (if 255 < p.2.2.length then p.1 + 16 else p.1) p.2.1 p.2.2 all = .inr (partS a (p.2.1 :: seen)) ∧ p.1 / 16 % 2 = 0 := by
  obtain ⟨h1, h2, h3, h4, h5, h6, h7⟩ := h.head
  have raw : ∀ r ∈ a.raws, p = partR r → applyA (partS a seen) (if 255 < p.2.2.length then p.1 + 16 else p.1) p.2.1 p.2.2 all = .inr (partS a (p.2.1 :: seen)) ∧ p.1 / 16 % 2 = 0 := by
    intro r hr e
    subst e
    have hk := of_decide_eq_true (h.raw r hr)
    have hin := h.ins r hr seen hs
    obtain ⟨fl, ty, ds⟩ := r
    have hs2 : ty.toNat ∉ seen := hs
    have hk2 : ty = 6 ∧ fl = 64 ∧ ds.length = 0 ∨ ty = 7 ∧ fl = 192 ∧ ds.length = 8 ∨ 8 < ty ∧ ty ≤ 255 ∧ fl = 224 ∧ ds.length ≤ 255 := hk
    clear hs hk
    have hs := hs2
    have hk := hk2
    clear hs2 hk2
    show applyA (partS a seen) (if 255 < ds.length then fl.toNat + 16 else fl.toNat) ty.toNat ds all = .inr (partS a (ty.toNat :: seen)) ∧ fl.toNat / 16 % 2 = 0
    rw [if_neg (by omega)]
    have res : ∀ z : Int, z = ty → ∀ y : Int, y = fl → ({ partS a seen with raws := insR (y, z, ds) (partS a seen).raws } : At) = partS a (ty.toNat :: seen) := by
      intro z hz y hy
      subst hz hy
      have hin2 : insR (y, z, ds) (partS a seen).raws = a.raws.filter fun x => decide (x.2.1.toNat ∈ z.toNat :: seen) := hin
      rw [hin2]
      unfold partS
      have ne : ∀ t, (t < 6 ∨ t = 8) → (t ∈ z.toNat :: seen ↔ t ∈ seen) := fun t ht => by
        rw [List.mem_cons]
        constructor
        · rintro (h9 | h9)
          · omega
          · exact h9
        · exact fun h9 => .inr h9
      simp only [ne 1 (by omega), ne 2 (by omega), ne 3 (by omega), ne 4 (by omega), ne 5 (by omega), ne 8 (by omega)]
    refine ⟨?_, by omega⟩
    unfold applyA
    by_cases h8 : ty.toNat ≤ 8
    · rw [if_pos (by omega)]
      unfold knownA
      have hw : (wantF ty.toNat : Nat) = fl.toNat := by
        unfold wantF
        rcases hk with hk | hk | hk
        · rw [if_neg (by omega), if_neg (by omega)]; omega
        · rw [if_neg (by omega), if_pos (by omega)]; omega
        · omega
      rw [if_neg (by rw [hw]; omega), if_neg (by
        have : sizeBad ty.toNat ds = false := decide_eq_false (by omega)
        simp [this]), if_neg (by omega), if_neg (by omega), if_neg (by omega), if_neg (by omega), if_neg (by omega), if_neg (by omega)]
      rw [res _ (by omega) _ (by rw [hw]; omega)]
    · rw [if_neg (by omega), if_neg (by omega), if_neg (by omega), if_neg (by omega), if_pos (by omega)]
      rw [res _ (by omega) _ (by omega)]
  have oth : ∀ t, (t < 6 ∨ t = 8) → (partS a (t :: seen)).raws = (partS a seen).raws := fun t ht => filter_other a.raws t seen (h.typ t ht)
  have hmem : ∀ t u : Nat, t ≠ u → (t ∈ u :: seen ↔ t ∈ seen) := fun t u hne => by
    rw [List.mem_cons]
    constructor
    · rintro (h9 | h9)
      · exact absurd h9 hne
      · exact h9
    · exact fun h9 => .inr h9
  have flg : ∀ (d : List Nat) (x : Nat), x = 64 ∨ x = 128 ∨ x = 192 → ∀ fl, (if 255 < d.length then x + 16 else x) = fl → fl / 64 * 64 = x ∧ fl / 32 % 2 = 0 := by
    intro d x hx fl e
    split at e <;> omega
  unfold partsA at hp
  simp only [List.mem_append, List.mem_cons, List.not_mem_nil, or_false, List.mem_map, List.mem_filter] at hp
  rcases hp with ((((hp | hp) | hp) | hp) | hp) | hp
  · rcases hp with rfl | rfl | rfl
    · refine ⟨?_, by show 64 / 16 % 2 = 0; decide⟩
      show applyA (partS a seen) (if 255 < [a.origin.toNat].length then 64 + 16 else 64) 1 [a.origin.toNat] all = _
      generalize hfl : (if 255 < [a.origin.toNat].length then 64 + 16 else 64) = fl
      obtain ⟨g1, g2⟩ := flg _ 64 (by omega) fl hfl
      have sb : sizeBad 1 [a.origin.toNat] = false := decide_eq_false (by simp)
      unfold applyA knownA
      rw [if_pos (by omega), if_neg (by rw [g1, g2]; decide), if_neg (by rw [sb]; decide), if_pos rfl, if_neg (by show ¬ 2 < a.origin.toNat; omega)]
      have e : ((([a.origin.toNat] : List Nat).getD 0 0 : Nat) : Int) = a.origin := by show ((a.origin.toNat : Nat) : Int) = _; omega
      rw [e]
      have := oth 1 (by omega)
      unfold partS at this ⊢
      simp only [hmem 2 1 (by omega), hmem 3 1 (by omega), hmem 4 1 (by omega), hmem 5 1 (by omega), hmem 8 1 (by omega), List.mem_cons, true_or, if_true] at this ⊢
      rw [this]
    · refine ⟨?_, by show 64 / 16 % 2 = 0; decide⟩
      show applyA (partS a seen) (if 255 < (encSegs a.path).length then 64 + 16 else 64) 2 (encSegs a.path) all = _
      generalize hfl : (if 255 < (encSegs a.path).length then 64 + 16 else 64) = fl
      obtain ⟨g1, g2⟩ := flg _ 64 (by omega) fl hfl
      have sb : sizeBad 2 (encSegs a.path) = false := decide_eq_false (by omega)
      unfold applyA knownA
      rw [if_pos (by omega), if_neg (by rw [g1, g2]; decide), if_neg (by rw [sb]; decide), if_neg (by omega), if_pos rfl, enc_back h2]
      show (Sum.inr { partS a seen with path := a.path } : Res) = _
      have := oth 2 (by omega)
      unfold partS at this ⊢
      simp only [hmem 1 2 (by omega), hmem 3 2 (by omega), hmem 4 2 (by omega), hmem 5 2 (by omega), hmem 8 2 (by omega), List.mem_cons, true_or, if_true] at this ⊢
      rw [this]
    · refine ⟨?_, by show 64 / 16 % 2 = 0; decide⟩
      show applyA (partS a seen) (if 255 < (b4 (a.next : Int)).length then 64 + 16 else 64) 3 (b4 (a.next : Int)) all = _
      generalize hfl : (if 255 < (b4 (a.next : Int)).length then 64 + 16 else 64) = fl
      obtain ⟨g1, g2⟩ := flg _ 64 (by omega) fl hfl
      have sb : sizeBad 3 (b4 (a.next : Int)) = false := decide_eq_false (by rw [b4_length]; omega)
      unfold applyA knownA
      rw [if_pos (by omega), if_neg (by rw [g1, g2]; decide), if_neg (by rw [sb]; decide), if_neg (by omega), if_neg (by omega), if_pos rfl, numL_b4 a.next h.next, if_pos h3]
      have := oth 3 (by omega)
      unfold partS at this ⊢
      simp only [hmem 1 3 (by omega), hmem 2 3 (by omega), hmem 4 3 (by omega), hmem 5 3 (by omega), hmem 8 3 (by omega), List.mem_cons, true_or, if_true] at this ⊢
      rw [this]
  · by_cases hz : 0 ≤ a.med
    · rw [if_pos hz] at hp
      simp only [List.mem_cons, List.not_mem_nil, or_false] at hp
      subst hp
      refine ⟨?_, by show 128 / 16 % 2 = 0; decide⟩
      show applyA (partS a seen) (if 255 < (b4 a.med).length then 128 + 16 else 128) 4 (b4 a.med) all = _
      generalize hfl : (if 255 < (b4 a.med).length then 128 + 16 else 128) = fl
      obtain ⟨g1, g2⟩ := flg _ 128 (by omega) fl hfl
      have sb : sizeBad 4 (b4 a.med) = false := decide_eq_false (by rw [b4_length]; omega)
      obtain ⟨n, hn⟩ := Int.eq_ofNat_of_zero_le hz
      unfold applyA knownA
      rw [if_pos (by omega), if_neg (by rw [g1, g2]; decide), if_neg (by rw [sb]; decide), if_neg (by omega), if_neg (by omega), if_neg (by omega), if_pos rfl]
      have e : ((numL (b4 a.med) : Nat) : Int) = a.med := by rw [hn, numL_b4 n (by omega)]
      rw [e]
      have := oth 4 (by omega)
      unfold partS at this ⊢
      simp only [hmem 1 4 (by omega), hmem 2 4 (by omega), hmem 3 4 (by omega), hmem 5 4 (by omega), hmem 8 4 (by omega), List.mem_cons, true_or, if_true] at this ⊢
      rw [this]
    · rw [if_neg hz] at hp
      simp at hp
  · by_cases hz : 0 ≤ a.pref
    · rw [if_pos hz] at hp
      simp only [List.mem_cons, List.not_mem_nil, or_false] at hp
      subst hp
      refine ⟨?_, by show 64 / 16 % 2 = 0; decide⟩
      show applyA (partS a seen) (if 255 < (b4 a.pref).length then 64 + 16 else 64) 5 (b4 a.pref) all = _
      generalize hfl : (if 255 < (b4 a.pref).length then 64 + 16 else 64) = fl
      obtain ⟨g1, g2⟩ := flg _ 64 (by omega) fl hfl
      have sb : sizeBad 5 (b4 a.pref) = false := decide_eq_false (by rw [b4_length]; omega)
      obtain ⟨n, hn⟩ := Int.eq_ofNat_of_zero_le hz
      unfold applyA knownA
      rw [if_pos (by omega), if_neg (by rw [g1, g2]; decide), if_neg (by rw [sb]; decide), if_neg (by omega), if_neg (by omega), if_neg (by omega), if_neg (by omega), if_pos rfl]
      have e : ((numL (b4 a.pref) : Nat) : Int) = a.pref := by rw [hn, numL_b4 n (by omega)]
      rw [e]
      have := oth 5 (by omega)
      unfold partS at this ⊢
      simp only [hmem 1 5 (by omega), hmem 2 5 (by omega), hmem 3 5 (by omega), hmem 4 5 (by omega), hmem 8 5 (by omega), List.mem_cons, true_or, if_true] at this ⊢
      rw [this]
    · rw [if_neg hz] at hp
      simp at hp
  · obtain ⟨r, ⟨hr, _⟩, rfl⟩ := hp
    exact raw r hr rfl
  · by_cases hz : 0 < a.comms.length
    · rw [if_pos hz] at hp
      simp only [List.mem_cons, List.not_mem_nil, or_false] at hp
      subst hp
      refine ⟨?_, by show 192 / 16 % 2 = 0; decide⟩
      show applyA (partS a seen) (if 255 < (encC a.comms).length then 192 + 16 else 192) 8 (encC a.comms) all = _
      generalize hfl : (if 255 < (encC a.comms).length then 192 + 16 else 192) = fl
      obtain ⟨g1, g2⟩ := flg _ 192 (by omega) fl hfl
      have sb : sizeBad 8 (encC a.comms) = false := decide_eq_false (by rw [encC_length]; omega)
      have hs8 : 8 ∉ seen := hs
      unfold applyA knownA
      rw [if_pos (by omega), if_neg (by rw [g1, g2]; decide), if_neg (by rw [sb]; decide), if_neg (by omega), if_neg (by omega), if_neg (by omega), if_neg (by omega), if_neg (by omega), if_pos rfl, if_neg (by rw [encC_length]; omega), numsL_encC a.comms h.comms]
      have e : (partS a seen).comms ++ a.comms = a.comms := by unfold partS; simp only [hs8, if_false, List.nil_append]
      rw [e]
      have := oth 8 (by omega)
      unfold partS at this ⊢
      simp only [hmem 1 8 (by omega), hmem 2 8 (by omega), hmem 3 8 (by omega), hmem 4 8 (by omega), hmem 5 8 (by omega), List.mem_cons, true_or, if_true] at this ⊢
      rw [this]
    · rw [if_neg hz] at hp
      simp at hp
  · obtain ⟨r, ⟨hr, _⟩, rfl⟩ := hp
    exact raw r hr rfl
/-- The attributes L of a, in whatever order, are read one by one. -/
theorem run_parts {a : At} (h : Fine a) : ∀ (L : List (Nat × Nat × List Nat)) (seen rest : List Nat), (∀ p ∈ L, p ∈ partsA a) → (L.Pairwise fun p q => p.2.1 ≠ q.2.1) → (∀ p ∈ L, p.2.1 ∉ seen) →
    runA (flatA L ++ rest) (partS a seen) seen = runA rest (partS a ((L.map fun p => p.2.1).reverse ++ seen)) ((L.map fun p => p.2.1).reverse ++ seen)
  | [], seen, rest, _, _, _ => rfl
  | p :: L, seen, rest, hm, hp, hs => by
    rw [List.pairwise_cons] at hp
    obtain ⟨h1, h2⟩ := part_step h p (hm p (by simp)) seen (hs p (by simp)) (oneB p.1 p.2.1 p.2.2)
    rw [flatA, List.append_assoc, runA_one p.1 p.2.1 p.2.2 (flatA L ++ rest) (partS a seen) seen h2 (hs p (by simp)), h1, thenA_go,
      run_parts h L (p.2.1 :: seen) rest (fun q hq => hm q (List.mem_cons_of_mem _ hq)) hp.2 (fun q hq h9 => by
        rcases List.mem_cons.1 h9 with h9 | h9
        · exact hp.1 q hq h9.symm
        · exact hs q (List.mem_cons_of_mem _ hq) h9)]
    simp
theorem partS_nil (a : At) : partS a [] = ⟨0, [], 0, -1, -1, [], []⟩ := by
  unfold partS
  simp
end Go.Proofs.YtempaadgheondaaDoor
/- Good attributes' bytes are read as they; in any order; not twice; what lacks is told; wrong flags and lengths of the first; unknown ones. Nothing of the program is named here. -/
namespace Go.Proofs.YtempaadgheondaaDoor
open Go.RowKit
set_option maxRecDepth 100000

/-- The types of attributes. -/
def tysA (L : List (Nat × Nat × List Nat)) : List Nat := L.map fun p => p.2.1
theorem map_raw (rs : List (Int × Int × List Nat)) (f : Int × Int × List Nat → Bool) (hp : rs.Pairwise fun x y => x.2.1 < y.2.1) (h0 : ∀ x ∈ rs, 0 ≤ x.2.1) : ((rs.filter f).map partR).Pairwise fun p q => p.2.1 < q.2.1 := by
  rw [List.pairwise_map]
  refine (hp.filter f).imp_of_mem ?_
  intro x y hx hy hxy
  have h1 := h0 x (List.mem_filter.1 hx).1
  have h2 := h0 y (List.mem_filter.1 hy).1
  show x.2.1.toNat < y.2.1.toNat
  omega
/-- Types rise. -/
theorem parts_rise {a : At} (h : Fine a) : (partsA a).Pairwise fun p q => p.2.1 < q.2.1 := by
  obtain ⟨_, _, _, _, _, _, h7⟩ := h.head
  have hp := rawsUp_pair h7
  have hk : ∀ x ∈ a.raws, 6 ≤ x.2.1 ∧ x.2.1 ≠ 8 := fun x hx => by
    obtain ⟨_, ty, _, e, _, h6, _, h8, _⟩ := rawK_nat (h.raw x hx)
    omega
  have h0 : ∀ x ∈ a.raws, 0 ≤ x.2.1 := fun x hx => by have := (hk x hx).1; omega
  have m1 : ∀ p ∈ (if 0 ≤ a.med then [((128 : Nat), (4 : Nat), b4 a.med)] else []), p.2.1 = 4 := by
    intro p hp9
    split at hp9
    · simp at hp9; rw [hp9]
    · simp at hp9
  have m2 : ∀ p ∈ (if 0 ≤ a.pref then [((64 : Nat), (5 : Nat), b4 a.pref)] else []), p.2.1 = 5 := by
    intro p hp9
    split at hp9
    · simp at hp9; rw [hp9]
    · simp at hp9
  have m3 : ∀ p ∈ (a.raws.filter fun r => decide (r.2.1 < 8)).map partR, 6 ≤ p.2.1 ∧ p.2.1 < 8 := by
    intro p hp9
    obtain ⟨r, hr, rfl⟩ := List.mem_map.1 hp9
    obtain ⟨hr1, hr2⟩ := List.mem_filter.1 hr
    have := hk r hr1
    have := of_decide_eq_true hr2
    show 6 ≤ r.2.1.toNat ∧ r.2.1.toNat < 8
    omega
  have m4 : ∀ p ∈ (if 0 < a.comms.length then [((192 : Nat), (8 : Nat), encC a.comms)] else []), p.2.1 = 8 := by
    intro p hp9
    split at hp9
    · simp at hp9; rw [hp9]
    · simp at hp9
  have m5 : ∀ p ∈ (a.raws.filter fun r => decide (8 < r.2.1)).map partR, 8 < p.2.1 := by
    intro p hp9
    obtain ⟨r, hr, rfl⟩ := List.mem_map.1 hp9
    obtain ⟨hr1, hr2⟩ := List.mem_filter.1 hr
    have := of_decide_eq_true hr2
    show 8 < r.2.1.toNat
    omega
  have m0 : ∀ p ∈ [((64 : Nat), (1 : Nat), [a.origin.toNat]), (64, 2, encSegs a.path), (64, 3, b4 (a.next : Int))], p.2.1 ≤ 3 := by
    intro p hp9
    simp only [List.mem_cons, List.not_mem_nil, or_false] at hp9
    rcases hp9 with rfl | rfl | rfl <;> simp
  have single : ∀ (c : Prop) [Decidable c] (x : Nat × Nat × List Nat), (if c then [x] else []).Pairwise fun p q : Nat × Nat × List Nat => p.2.1 < q.2.1 := by
    intro c _ x
    split <;> simp
  unfold partsA
  rw [List.pairwise_append, List.pairwise_append, List.pairwise_append, List.pairwise_append, List.pairwise_append]
  refine ⟨⟨⟨⟨⟨by simp, single _ _, ?_⟩, single _ _, ?_⟩, map_raw _ _ hp h0, ?_⟩, single _ _, ?_⟩, map_raw _ _ hp h0, ?_⟩
  · intro p h1 q h2
    have := m0 p h1; have := m1 q h2; omega
  · intro p h1 q h2
    have := m2 q h2
    rcases List.mem_append.1 h1 with h1 | h1
    · have := m0 p h1; omega
    · have := m1 p h1; omega
  · intro p h1 q h2
    have := m3 q h2
    rcases List.mem_append.1 h1 with h1 | h1
    · rcases List.mem_append.1 h1 with h1 | h1
      · have := m0 p h1; omega
      · have := m1 p h1; omega
    · have := m2 p h1; omega
  · intro p h1 q h2
    have := m4 q h2
    rcases List.mem_append.1 h1 with h1 | h1
    · rcases List.mem_append.1 h1 with h1 | h1
      · rcases List.mem_append.1 h1 with h1 | h1
        · have := m0 p h1; omega
        · have := m1 p h1; omega
      · have := m2 p h1; omega
    · have := m3 p h1; omega
  · intro p h1 q h2
    have := m5 q h2
    rcases List.mem_append.1 h1 with h1 | h1
    · rcases List.mem_append.1 h1 with h1 | h1
      · rcases List.mem_append.1 h1 with h1 | h1
        · rcases List.mem_append.1 h1 with h1 | h1
          · have := m0 p h1; omega
          · have := m1 p h1; omega
        · have := m2 p h1; omega
      · have := m3 p h1; omega
    · have := m4 p h1; omega
theorem parts_three (a : At) : (64, 1, [a.origin.toNat]) ∈ partsA a ∧ (64, 2, encSegs a.path) ∈ partsA a ∧ (64, 3, b4 (a.next : Int)) ∈ partsA a := by
  unfold partsA
  simp
/-- All having been read, it is a. -/
theorem partS_all {a : At} (h : Fine a) (seen : List Nat) (hs : ∀ p ∈ partsA a, p.2.1 ∈ seen) : partS a seen = a := by
  obtain ⟨h1, h2, h3, h4, h5, h6, h7⟩ := h.head
  obtain ⟨t1, t2, t3⟩ := parts_three a
  have s1 := hs _ t1
  have s2 := hs _ t2
  have s3 := hs _ t3
  simp only at s1 s2 s3
  have e4 : (if 4 ∈ seen then a.med else -1) = a.med := by
    by_cases hz : 0 ≤ a.med
    · have := hs (128, 4, b4 a.med) (by unfold partsA; simp [hz])
      rw [if_pos this]
    · split
      · rfl
      · omega
  have e5 : (if 5 ∈ seen then a.pref else -1) = a.pref := by
    by_cases hz : 0 ≤ a.pref
    · have := hs (64, 5, b4 a.pref) (by unfold partsA; simp [hz])
      rw [if_pos this]
    · split
      · rfl
      · omega
  have e8 : (if 8 ∈ seen then a.comms else []) = a.comms := by
    by_cases hz : 0 < a.comms.length
    · have := hs (192, 8, encC a.comms) (by unfold partsA; simp [hz])
      rw [if_pos this]
    · split
      · rfl
      · exact (List.length_eq_zero_iff.1 (by omega)).symm
  have er : (a.raws.filter fun r => decide (r.2.1.toNat ∈ seen)) = a.raws := by
    rw [List.filter_eq_self]
    intro r hr
    refine decide_eq_true (hs (partR r) ?_)
    obtain ⟨_, ty, _, e, _, _, _, hne, _⟩ := rawK_nat (h.raw r hr)
    unfold partsA
    simp only [List.mem_append, List.mem_map, List.mem_filter]
    by_cases h8 : r.2.1 < 8
    · exact .inl (.inl (.inr ⟨r, ⟨hr, decide_eq_true h8⟩, rfl⟩))
    · exact .inr ⟨r, ⟨hr, decide_eq_true (by omega)⟩, rfl⟩
  unfold partS
  rw [if_pos s1, if_pos s2, if_pos s3, e4, e5, e8, er]
/-- The attributes L of a, in whatever order, with what is behind them. -/
theorem read_parts {a : At} (h : Fine a) (L : List (Nat × Nat × List Nat)) (rest : List Nat) (hm : ∀ p ∈ L, p ∈ partsA a) (hp : L.Pairwise fun p q => p.2.1 ≠ q.2.1) : readA (flatA L ++ rest) = runA rest (partS a (tysA L).reverse) (tysA L).reverse := by
  have := run_parts h L [] rest hm hp (by simp)
  rw [List.append_nil] at this
  unfold readA
  rw [← partS_nil a]
  exact this
/-- All of them, in whatever order. -/
theorem read_all {a : At} (h : Fine a) (L : List (Nat × Nat × List Nat)) (hm : ∀ p ∈ L, p ∈ partsA a) (hp : L.Pairwise fun p q => p.2.1 ≠ q.2.1) (hc : ∀ p ∈ partsA a, p ∈ L) : readA (flatA L) = .inr a := by
  have h9 := read_parts h L [] hm hp
  rw [List.append_nil, runA_end] at h9
  have hin : ∀ p ∈ partsA a, p.2.1 ∈ (tysA L).reverse := fun p hp9 => by
    rw [List.mem_reverse]
    exact List.mem_map.2 ⟨p, hc p hp9, rfl⟩
  obtain ⟨t1, t2, t3⟩ := parts_three a
  have s1 := hin _ t1
  have s2 := hin _ t2
  have s3 := hin _ t3
  simp only at s1 s2 s3
  rw [h9, partS_all h _ hin]
  unfold finA
  rw [if_neg (by simpa using s1), if_neg (by simpa using s2), if_neg (by simpa using s3)]
/-- As they are written. -/
theorem read_back {a : At} (h : Fine a) : readA (encA a) = .inr a := by
  rw [← flat_parts a h.good]
  exact read_all h (partsA a) (fun _ h => h) ((parts_rise h).imp fun h => Nat.ne_of_lt h) (fun _ h => h)
/-- One of them twice. -/
theorem read_twice {a : At} (h : Fine a) (L : List (Nat × Nat × List Nat)) (p : Nat × Nat × List Nat) (rest : List Nat) (hm : ∀ p ∈ L, p ∈ partsA a) (hp : L.Pairwise fun p q => p.2.1 ≠ q.2.1) (hpl : p ∈ L) : readA (flatA L ++ (oneB p.1 p.2.1 p.2.2 ++ rest)) = .inl (3, 1, []) := by
  rw [read_parts h L _ hm hp, runA_twice]
  rw [List.mem_reverse]
  exact List.mem_map.2 ⟨p, hpl, rfl⟩
/-- Some of them: what lacks. -/
theorem read_some {a : At} (h : Fine a) (L : List (Nat × Nat × List Nat)) (hm : ∀ p ∈ L, p ∈ partsA a) (hp : L.Pairwise fun p q => p.2.1 ≠ q.2.1) : readA (flatA L) = finA (partS a (tysA L).reverse) (tysA L).reverse := by
  have h9 := read_parts h L [] hm hp
  rw [List.append_nil, runA_end] at h9
  exact h9
/-- ORIGIN first, of whatever flags. -/
theorem read_flags (fl o : Nat) (rest : List Nat) (hf : fl / 16 % 2 = 0) (ho : o ≤ 2) : readA ([fl, 1, 1, o] ++ rest) = if fl / 64 = 1 ∧ fl / 32 % 2 = 0 then runA rest ⟨(o : Int), [], 0, -1, -1, [], []⟩ [1] else .inl (3, 4, [fl, 1, 1, o]) := by
  have h1 := runA_short fl 1 [o] rest ⟨0, [], 0, -1, -1, [], []⟩ [] hf (by simp)
  have e : readA ([fl, 1, 1, o] ++ rest) = runA ([fl, 1, [o].length] ++ [o] ++ rest) ⟨0, [], 0, -1, -1, [], []⟩ [] := rfl
  rw [e, h1]
  have sb : sizeBad 1 [o] = false := decide_eq_false (by simp)
  unfold applyA knownA
  rw [if_pos (by omega)]
  by_cases hk : fl / 64 = 1 ∧ fl / 32 % 2 = 0
  · rw [if_pos hk, if_neg (by rw [show wantF 1 = 64 from rfl]; omega), if_neg (by rw [sb]; decide), if_pos rfl, if_neg (by show ¬ 2 < o; omega)]
    rfl
  · rw [if_neg hk, if_pos (by rw [show wantF 1 = 64 from rfl]; omega)]
    rfl
/-- ORIGIN first, of whatever length. -/
theorem read_length (d rest : List Nat) (hd : d.length ≠ 1) : readA ([64, 1, d.length] ++ d ++ rest) = .inl (3, 5, [64, 1, d.length] ++ d) := by
  have h1 := runA_short 64 1 d rest ⟨0, [], 0, -1, -1, [], []⟩ [] (by decide) (by simp)
  have sb : sizeBad 1 d = true := decide_eq_true (by omega)
  unfold readA
  rw [h1]
  unfold applyA knownA
  rw [if_pos (by omega), if_neg (by decide), if_pos sb]
  rfl
/-- An unknown one first. -/
theorem read_unknown (fl ty : Nat) (d rest : List Nat) (hf : fl / 16 % 2 = 0) (ht : 8 < ty) (hd : d.length ≤ 255) : readA ([fl, ty, d.length] ++ d ++ rest) =
    if fl < 128 then .inl (3, 2, [fl, ty, d.length] ++ d) else runA rest ⟨0, [], 0, -1, -1, [], if fl / 64 % 2 = 1 then [(224, (ty : Int), d)] else []⟩ [ty] := by
  have h1 := runA_short fl ty d rest ⟨0, [], 0, -1, -1, [], []⟩ [] hf (by simp)
  unfold readA
  rw [h1]
  unfold applyA
  rw [if_neg (by omega)]
  by_cases h128 : fl < 128
  · rw [if_pos h128, if_pos h128]; rfl
  · rw [if_neg h128, if_neg h128]
    by_cases h64 : fl / 64 % 2 = 0
    · rw [if_pos h64, if_neg (by omega)]; rfl
    · rw [if_neg h64, if_neg (by omega), if_pos ht, if_pos (by omega)]; rfl
end Go.Proofs.YtempaadgheondaaDoor
/- Attributes one by one, as the program tells them, and put in order. Nothing of the program is named here. -/
namespace Go.Proofs.YtempaadgheondaaDoor
open Go.RowKit
set_option maxRecDepth 100000

theorem perm_lift {α β : Type} (f : α → β) {l' x : List β} (h : l'.Perm x) : ∀ l : List α, x = l.map f → ∃ m : List α, m.Perm l ∧ m.map f = l' := by
  induction h with
  | nil => intro l e; exact ⟨l, List.Perm.refl _, e.symm⟩
  | cons a _ ih =>
    intro l e
    cases l with
    | nil => simp at e
    | cons b l =>
      simp only [List.map_cons, List.cons.injEq] at e
      obtain ⟨m, hm, he⟩ := ih l e.2
      exact ⟨b :: m, hm.cons b, by rw [List.map_cons, he, e.1]⟩
  | swap a b t =>
    intro l e
    match l, e with
    | c :: d :: l, e =>
      simp only [List.map_cons, List.cons.injEq] at e
      exact ⟨d :: c :: l, List.Perm.swap _ _ _, by rw [List.map_cons, List.map_cons, e.1, e.2.1, e.2.2]⟩
  | trans _ _ ih1 ih2 =>
    intro l e
    obtain ⟨m, hm, he⟩ := ih2 l e
    obtain ⟨m', hm', he'⟩ := ih1 m he.symm
    exact ⟨m', hm'.trans hm, he'⟩
theorem up_unique {α : Type} (key : α → Int) : ∀ (l m : List α), (l.Pairwise fun x y => key x < key y) → (m.Pairwise fun x y => key x < key y) → l.Perm m → l = m
  | [], m, _, _, h => (List.nil_perm.1 h).symm
  | x :: l, m, h1, h2, h => by
    cases m with
    | nil => exact absurd h.symm (List.not_perm_nil_cons _ _ )
    | cons y m =>
      rw [List.pairwise_cons] at h1 h2
      have hxy : x = y := by
        rcases List.mem_cons.1 (h.mem_iff.1 (List.mem_cons_self (a := x) (l := l))) with e | e
        · exact e
        · rcases List.mem_cons.1 (h.mem_iff.2 (List.mem_cons_self (a := y) (l := m))) with e2 | e2
          · exact e2.symm
          · have := h1.1 y e2
            have := h2.1 x e
            omega
      subst hxy
      rw [up_unique key l m h1.2 h2.2 ((List.perm_cons x).1 h)]
theorem sort_lift {α R : Type} (key : α → Int) (kr : R → Int) (d' : List α) (Z : List (α × R)) (hp : d'.Perm (Z.map fun z => z.1)) (hs : d'.Pairwise fun x y => key x ≤ key y) (hk : ∀ z ∈ Z, key z.1 = kr z.2) (S : List R) (hS : S.Perm (Z.map fun z => z.2)) (hup : S.Pairwise fun x y => kr x < kr y) :
    ∃ Z' : List (α × R), Z'.Perm Z ∧ Z'.map (fun z => z.1) = d' ∧ Z'.map (fun z => z.2) = S := by
  obtain ⟨Z', h1, h2⟩ := perm_lift _ hp Z rfl
  refine ⟨Z', h1, h2, ?_⟩
  have hp2 : (Z'.map fun z => z.2).Perm S := (h1.map _).trans hS.symm
  refine up_unique kr _ _ ?_ hup hp2
  have hne : (Z'.map fun z => z.2).Pairwise fun x y => kr x ≠ kr y := (hp2.pairwise_iff (R := fun x y => kr x ≠ kr y) (fun h e => h e.symm)).2 (hup.imp fun h e => by omega)
  have hle : (Z'.map fun z => z.2).Pairwise fun x y => kr x ≤ kr y := by
    rw [List.pairwise_map]
    rw [← h2, List.pairwise_map] at hs
    refine hs.imp_of_mem (fun {a b} ha hb h => ?_)
    rw [hk a (h1.mem_iff.1 ha), hk b (h1.mem_iff.1 hb)] at h
    exact h
  exact (hle.and hne).imp fun h => by omega
theorem insR_perm (r : Int × Int × List Nat) : ∀ l, (insR r l).Perm (l ++ [r])
  | [] => List.Perm.refl _
  | x :: l => by
    rw [insR]
    split
    · exact (List.perm_append_comm (l₁ := [r]) (l₂ := x :: l))
    · exact (insR_perm r l).cons x
theorem insR_up (r : Int × Int × List Nat) : ∀ l, (l.Pairwise fun x y => x.2.1 < y.2.1) → (∀ x ∈ l, x.2.1 ≠ r.2.1) → (insR r l).Pairwise fun x y => x.2.1 < y.2.1
  | [], _, _ => by simp [insR]
  | x :: l, h, hn => by
    have hx := hn x (by simp)
    rw [insR]
    by_cases e : r.2.1 < x.2.1
    · rw [if_pos e]
      refine List.pairwise_cons.2 ⟨fun y hy => ?_, h⟩
      rcases List.mem_cons.1 hy with rfl | hy
      · exact e
      · have := (List.pairwise_cons.1 h).1 y hy; omega
    · rw [if_neg e]
      refine List.pairwise_cons.2 ⟨fun y hy => ?_, insR_up r l (List.pairwise_cons.1 h).2 (fun y hy => hn y (List.mem_cons_of_mem _ hy))⟩
      rcases List.mem_append.1 ((insR_perm r l).mem_iff.1 hy) with h1 | h1
      · exact (List.pairwise_cons.1 h).1 y h1
      · simp only [List.mem_cons, List.not_mem_nil, or_false] at h1
        subst h1
        omega
/-- An attribute as a Raw. -/
def partI (p : Nat × Nat × List Nat) : Int × Int × List Nat := ((p.1 : Int), (p.2.1 : Int), p.2.2)
/-- Those that have fields of their own. -/
def knownL (a : At) : List (Int × Int × List Nat) :=
  [(64, 1, [a.origin.toNat]), (64, 2, encSegs a.path), (64, 3, b4 (a.next : Int))] ++ (if a.med = -1 then [] else [(128, 4, b4 a.med)]) ++ (if a.pref = -1 then [] else [(64, 5, b4 a.pref)]) ++ (if 0 < a.comms.length then [(192, 8, encC a.comms)] else [])
theorem map_part {a : At} (h : Fine a) (f : Int × Int × List Nat → Bool) : ((a.raws.filter f).map partR).map partI = a.raws.filter f := by
  rw [List.map_map]
  conv => rhs; rw [← List.map_id (a.raws.filter f)]
  apply List.map_congr_left
  intro r hr
  obtain ⟨fl, ty, e1, e2, _⟩ := rawK_nat (h.raw r (List.mem_filter.1 hr).1)
  obtain ⟨x, y, z⟩ := r
  simp only at e1 e2
  subst e1 e2
  rfl
theorem perm_parts {a : At} (h : Fine a) : ((partsA a).map partI).Perm (knownL a ++ a.raws) := by
  obtain ⟨_, _, _, h4, h5, _, _⟩ := h.head
  have hr : ((a.raws.filter fun r => decide (r.2.1 < 8)) ++ (a.raws.filter fun r => decide (8 < r.2.1))).Perm a.raws := by
    have e : (a.raws.filter fun r => decide (8 < r.2.1)) = a.raws.filter fun r => !decide (r.2.1 < 8) := by
      apply List.filter_congr
      intro r hr
      obtain ⟨fl, ty, e1, e2, _, _, _, h8, _⟩ := rawK_nat (h.raw r hr)
      rw [Bool.eq_iff_iff]
      simp only [decide_eq_true_eq, Bool.not_eq_true', decide_eq_false_iff_not]
      omega
    rw [e]
    exact List.filter_append_perm _ _
  have em : (if 0 ≤ a.med then [((128 : Nat), (4 : Nat), b4 a.med)] else []).map partI = (if a.med = -1 then [] else [((128 : Int), (4 : Int), b4 a.med)]) := by
    by_cases e : a.med = -1
    · rw [if_neg (by omega), if_pos e]; rfl
    · rw [if_pos (by omega), if_neg e]; rfl
  have ep : (if 0 ≤ a.pref then [((64 : Nat), (5 : Nat), b4 a.pref)] else []).map partI = (if a.pref = -1 then [] else [((64 : Int), (5 : Int), b4 a.pref)]) := by
    by_cases e : a.pref = -1
    · rw [if_neg (by omega), if_pos e]; rfl
    · rw [if_pos (by omega), if_neg e]; rfl
  have ec : (if 0 < a.comms.length then [((192 : Nat), (8 : Nat), encC a.comms)] else []).map partI = (if 0 < a.comms.length then [((192 : Int), (8 : Int), encC a.comms)] else []) := by
    split <;> rfl
  unfold partsA knownL
  simp only [List.map_append, map_part h, em, ep, ec]
  generalize (a.raws.filter fun r => decide (r.2.1 < 8)) = lo at *
  generalize (a.raws.filter fun r => decide (8 < r.2.1)) = hi at *
  generalize (if 0 < a.comms.length then [((192 : Int), (8 : Int), encC a.comms)] else []) = C at *
  have e3 : List.map partI [(64, 1, [a.origin.toNat]), (64, 2, encSegs a.path), (64, 3, b4 (a.next : Int))] = [((64 : Int), (1 : Int), [a.origin.toNat]), (64, 2, encSegs a.path), (64, 3, b4 (a.next : Int))] := rfl
  rw [e3]
  generalize [((64 : Int), (1 : Int), [a.origin.toNat]), (64, 2, encSegs a.path), (64, 3, b4 (a.next : Int))] ++ (if a.med = -1 then [] else [((128 : Int), (4 : Int), b4 a.med)]) ++ (if a.pref = -1 then [] else [((64 : Int), (5 : Int), b4 a.pref)]) = A at *
  rw [List.append_assoc, List.append_assoc, List.append_assoc]
  refine List.Perm.append_left A ?_
  refine List.Perm.trans ?_ (List.Perm.append_left C hr)
  rw [← List.append_assoc, ← List.append_assoc]
  exact List.Perm.append_right hi List.perm_append_comm
theorem parts_up {a : At} (h : Fine a) : ((partsA a).map partI).Pairwise fun x y => x.2.1 < y.2.1 := by
  rw [List.pairwise_map]
  exact (parts_rise h).imp fun {x y} h9 => by unfold partI; simp only; omega
end Go.Proofs.YtempaadgheondaaDoor
