/- Attributes, in plain numbers, and as they are read. Nothing of the program is named here. -/
import Derived.Test.YtmpnnfbpknfekaaPthEn
import Derived.Test.YtmpnnfbpknfekaaBrd
namespace Go.Proofs.Ytmpnnfbpknfekaa
open Go.RowKit
set_option maxRecDepth 100000

/-- Attributes. -/
structure At where
  origin : Int
  path : List (Bool × List Int)
  next : Nat
  med : Int
  pref : Int
  comms : List Nat
  raws : List (Int × Int × List Nat)
/-- May it be a next hop? -/
def hopB (n : Nat) : Bool := decide (n ≠ 0 ∧ n / 16777216 ≠ 127 ∧ n / 16777216 < 224)
/-- May it be a Raw? -/
def rawK (r : Int × Int × List Nat) : Bool := decide (r.2.1 = 6 ∧ r.1 = 64 ∧ r.2.2.length = 0 ∨ r.2.1 = 7 ∧ r.1 = 192 ∧ r.2.2.length = 8 ∨ 8 < r.2.1 ∧ r.2.1 ≤ 255 ∧ r.1 = 224 ∧ r.2.2.length ≤ 255)
/-- The type of the i-th. -/
def typAt (rs : List (Int × Int × List Nat)) (i : Nat) : Int := (rs.getD i (0, 0, [])).2.1
/-- Are the first k good, and do they rise? -/
def rawsUp (rs : List (Int × Int × List Nat)) : Nat → Bool
  | 0 => true
  | k + 1 => rawsUp rs k && rawK (rs.getD k (0, 0, [])) && (decide (k = 0) || decide (typAt rs (k - 1) < typAt rs k))
theorem rawsUp_false {rs : List (Int × Int × List Nat)} {k : Nat} (h : rawsUp rs k = false) : ∀ n, k ≤ n → rawsUp rs n = false
  | 0, hn => by rw [show k = 0 from by omega] at h; exact h
  | n + 1, hn => by
    by_cases e : k = n + 1
    · rw [← e]; exact h
    · rw [rawsUp, rawsUp_false h n (by omega)]; rfl
/-- Are a path and numbers as they have to be? -/
def headA (a : At) : Bool := decide (0 ≤ a.origin ∧ a.origin ≤ 2) && goodP a.path && hopB a.next && decide (-1 ≤ a.med ∧ a.med ≤ 4294967295) && decide (-1 ≤ a.pref ∧ a.pref ≤ 4294967295) && decide (a.comms.length ≤ 32)
/-- Are attributes good? -/
def goodA (a : At) : Bool := headA a && rawsUp a.raws a.raws.length
/-- The slice's elements are the numbers cs. -/
def CRd (w : World) (a : Option Addr) (cs : List Nat) : Prop := 0 < cs.length → ∃ b off, a = some ⟨b, off, none⟩ ∧ ∀ (j z : Nat), cs[j]? = some z → w.cell? ⟨b, off + j, none⟩ = some (.int .u32 (z : Int))
theorem CRd.below {w w' : World} {a : Option Addr} {cs : List Nat} (h : CRd w a cs) (hb : Below w.heap.size w w') : CRd w' a cs := fun hp => by
  obtain ⟨b, off, rfl, hc⟩ := h hp
  exact ⟨b, off, rfl, fun j z hj => by rw [hb.cell (p := ⟨b, off + j, none⟩) (World.block_lt_of_cell? w _ (hc j z hj))]; exact hc j z hj⟩
/-- The cells at b, off are the Raws rs. -/
def RawAt (w : World) (b off : Nat) (rs : List (Int × Int × List Nat)) : Prop :=
  ∀ i r, rs[i]? = some r → w.cell? ⟨b, off + i * 3, none⟩ = some (.int .i64 r.1) ∧ w.cell? ⟨b, off + i * 3 + 1, none⟩ = some (.int .i64 r.2.1) ∧ ∃ a' c', w.cell? ⟨b, off + i * 3 + 2, none⟩ = some (.slice a' r.2.2.length c') ∧ r.2.2.length ≤ c' ∧ BRd w a' r.2.2
theorem RawAt.below {w w' : World} {b off : Nat} {rs : List (Int × Int × List Nat)} (h : RawAt w b off rs) (hb : Below w.heap.size w w') : RawAt w' b off rs := fun i r hi => by
  obtain ⟨h1, h2, a', c', h3, h4, h5⟩ := h i r hi
  exact ⟨by rw [hb.cell (p := ⟨b, off + i * 3, none⟩) (World.block_lt_of_cell? w _ h1)]; exact h1, by rw [hb.cell (p := ⟨b, off + i * 3 + 1, none⟩) (World.block_lt_of_cell? w _ h2)]; exact h2, a', c', by rw [hb.cell (p := ⟨b, off + i * 3 + 2, none⟩) (World.block_lt_of_cell? w _ h3)]; exact h3, h4, h5.below hb⟩
/-- The slice's elements are the Raws rs. -/
def RawRd (w : World) (a : Option Addr) (rs : List (Int × Int × List Nat)) : Prop := 0 < rs.length → ∃ b off, a = some ⟨b, off, none⟩ ∧ RawAt w b off rs
theorem RawRd.below {w w' : World} {a : Option Addr} {rs : List (Int × Int × List Nat)} (h : RawRd w a rs) (hb : Below w.heap.size w w') : RawRd w' a rs := fun hp => by
  obtain ⟨b, off, rfl, hc⟩ := h hp
  exact ⟨b, off, rfl, hc.below hb⟩
/-- How many bytes all Raws have. -/
def sumR : List (Int × Int × List Nat) → Nat
  | [] => 0
  | r :: l => r.2.2.length + sumR l
theorem sumR_snoc (l : List (Int × Int × List Nat)) (r : Int × Int × List Nat) : sumR (l ++ [r]) = sumR l + r.2.2.length := by
  induction l with
  | nil => simp [sumR]
  | cons a l ih => simp only [List.cons_append, sumR, ih]; omega
theorem sumR_take (l : List (Int × Int × List Nat)) : ∀ k, sumR (l.take k) ≤ sumR l := by
  induction l with
  | nil => intro k; simp [sumR]
  | cons a l ih =>
    intro k
    cases k with
    | zero => simp [sumR]
    | succ k => simp only [List.take_succ_cons, sumR]; have := ih k; omega
theorem sumR_mem (l : List (Int × Int × List Nat)) (r : Int × Int × List Nat) (h : r ∈ l) : r.2.2.length ≤ sumR l := by
  induction l with
  | nil => simp at h
  | cons a l ih =>
    simp only [sumR]
    rcases List.mem_cons.1 h with rfl | h
    · omega
    · have := ih h; omega
/-- Attributes as a value, and where their parts lie. -/
structure AtRd (w : World) (pa ca ra : Option Addr) (a : At) : Prop where
  path : PthRd w pa a.path
  comms : CRd w ca a.comms
  raws : RawRd w ra a.raws
  next : a.next < 4294967296
theorem AtRd.below {w w' : World} {pa ca ra : Option Addr} {a : At} (h : AtRd w pa ca ra a) (hb : Below w.heap.size w w') : AtRd w' pa ca ra a := ⟨h.path.below hb, h.comms.below hb, h.raws.below hb, h.next⟩
/-- The value itself. -/
def atV (pa : Option Addr) (pc : Nat) (ca : Option Addr) (cc : Nat) (ra : Option Addr) (rc : Nat) (a : At) : Value :=
  .agg #[.int .i64 a.origin, .slice pa a.path.length pc, .int .u32 (a.next : Int), .int .i64 a.med, .int .i64 a.pref, .slice ca a.comms.length cc, .slice ra a.raws.length rc]
/-- Not too great to be played. -/
def sizeA (a : At) : Nat := a.path.length + sumP a.path + a.comms.length + a.raws.length + sumR a.raws
end Go.Proofs.Ytmpnnfbpknfekaa
