/- Bytes behind a row of the call's own; the document's one. -/
import Derived.Test.YtempaadgheondaaDoorHAt
import Derived.Test.YtempaadgheondaaDoorHOne
namespace Go.Proofs.YtempaadgheondaaDoor
open Go.RowKit
set_option maxRecDepth 100000

/-- An attribute's bytes. -/
def oneB (fl ty : Nat) (bs : List Nat) : List Nat := if 255 < bs.length then [fl + 16, ty, bs.length / 256, bs.length % 256] ++ bs else [fl, ty, bs.length] ++ bs
theorem oneB_length (fl ty : Nat) (bs : List Nat) : (oneB fl ty bs).length ≤ bs.length + 4 := by
  unfold oneB
  split <;> simp
theorem oneB_pos (fl ty : Nat) (bs : List Nat) : 0 < (oneB fl ty bs).length := by
  unfold oneB
  split <;> simp
theorem oneB_lt (fl ty : Nat) (bs : List Nat) (hf : fl < 240) (ht : ty < 256) (hl : bs.length < 65536) (hb : ∀ x ∈ bs, x < 256) : ∀ x ∈ oneB fl ty bs, x < 256 := by
  intro x hx
  unfold oneB at hx
  split at hx
  · simp only [List.cons_append, List.nil_append, List.mem_cons] at hx
    rcases hx with rfl | rfl | rfl | rfl | hx
    · omega
    · omega
    · omega
    · omega
    · exact hb x hx
  · simp only [List.cons_append, List.nil_append, List.mem_cons] at hx
    rcases hx with rfl | rfl | rfl | hx
    · omega
    · omega
    · omega
    · exact hb x hx
section
attribute [local go_sem ↓] kept_append
set_option maxHeartbeats 1600000 in
theorem one_any (fl ty : Nat) (a : Option Addr) (c : Nat) (bs : List Nat) (w : World) (hf : fl < 240) (ht : ty < 256) (hl : bs.length ≤ 60000) (h : BRd w a bs) :
    Calls Tryd.prog 32 #[.int .i64 (fl : Int), .int .i64 (ty : Int), .slice a bs.length c] w fun e w' => ∃ v, e = .returned v ∧ w'.ownsRow w.heap.size 5 1 v (oneB fl ty bs).length (bcells (oneB fl ty bs)) ∧ Below w.heap.size w w' := by
  have HE := hide (show oneB fl ty bs = if 255 < bs.length then [fl + 16, ty, bs.length / 256, bs.length % 256] ++ bs else [fl, ty, bs.length] ++ bs from rfl)
  generalize oneB fl ty bs = ob at *
  have hb0 : ∀ cur : Array Value, Below w.heap.size w (w.alloc (.cells cur 5)) := fun cur => (Below.refl _ _).alloc (Nat.le_refl _) _
  by_cases h255 : 255 < bs.length
  · have HE2 : Hid (ob = [fl + 16, ty, bs.length / 256, bs.length % 256] ++ bs) := by show ob = _; rw [HE.out, if_pos h255]
    have hm : ∀ cur : Array Value, cur = #[.int .u8 (((fl + 16 : Nat)) : Int), .int .u8 (ty : Int), .int .u8 ((bs.length / 256 : Nat) : Int), .int .u8 ((bs.length % 256 : Nat) : Int)] → (w.alloc (.cells cur 5)).ownsRow w.heap.size 5 1 (.slice (some ⟨w.heap.size, 0, none⟩) 4 4) 4 (bcells [fl + 16, ty, bs.length / 256, bs.length % 256]) := fun cur e => by
      subst e
      exact ⟨rfl, .inr ⟨w.heap.size, 4, _, rfl, Nat.le_refl _, by unfold World.alloc; exact Array.getElem?_push_size, Nat.le_refl _, by unfold maxLen; omega, rfl, rfl⟩⟩
    obtain ⟨v', w', hr, ho, hb⟩ := app_brd bs a c rfl (hm #[.int .u8 ((fl : Int) + 16), .int .u8 (ty : Int), .int .u8 ((bs.length : Int) / 256), .int .u8 ((bs.length : Int) % 256)] (by simp)) (hb0 _).size (by simp; omega) (h.below (hb0 _))
    have HR := hide hr
    rw [← HE2.out] at ho
    have HO := hide ho
    have HB := hide ((hb0 _).trans hb)
    clear hr ho hb hm h HE HE2
    generalize bs.length = n at *
    have i255 : (255 : Int) < (n : Int) := by omega
    go_enter Tryd.func32, Tryd.ntmps32
    go_wp2_with fail
    refine kept_append_intro _ _ _ _ v' (w' := w') (by rfl) (by rfl) (by exact HR.out) ?_
    go_wp2
    go_ret
    exact ⟨_, rfl, HO.out, HB.out⟩
  · have HE2 : Hid (ob = [fl, ty, bs.length] ++ bs) := by show ob = _; rw [HE.out, if_neg h255]
    have hm : (w.alloc (.cells #[.int .u8 (fl : Int), .int .u8 (ty : Int), .int .u8 (bs.length : Int)] 5)).ownsRow w.heap.size 5 1 (.slice (some ⟨w.heap.size, 0, none⟩) 3 3) 3 (bcells [fl, ty, bs.length]) :=
      ⟨rfl, .inr ⟨w.heap.size, 3, _, rfl, Nat.le_refl _, by unfold World.alloc; exact Array.getElem?_push_size, Nat.le_refl _, by unfold maxLen; omega, rfl, rfl⟩⟩
    obtain ⟨v', w', hr, ho, hb⟩ := app_brd bs a c rfl hm (hb0 _).size (by simp; omega) (h.below (hb0 _))
    have HR := hide hr
    rw [← HE2.out] at ho
    have HO := hide ho
    have HB := hide ((hb0 _).trans hb)
    clear hr ho hb hm h HE HE2
    generalize bs.length = n at *
    have i255 : decide ((255 : Int) < (n : Int)) = false := decide_eq_false (by omega)
    go_enter Tryd.func32, Tryd.ntmps32
    go_wp2_with fail
    refine kept_append_intro _ _ _ _ v' (w' := w') (by rfl) (by rfl) (by exact HR.out) ?_
    go_wp2
    go_ret
    exact ⟨_, rfl, HO.out, HB.out⟩
end
end Go.Proofs.YtempaadgheondaaDoor
/- Attributes as bytes, in plain numbers; one attribute more behind a row of bytes. -/
namespace Go.Proofs.YtempaadgheondaaDoor
open Go.RowKit
set_option maxRecDepth 100000

/-- The bytes of the Raws below 8. -/
def encLo : List (Int × Int × List Nat) → List Nat
  | [] => []
  | r :: l => (if r.2.1 < 8 then oneB r.1.toNat r.2.1.toNat r.2.2 else []) ++ encLo l
theorem encLo_snoc (l : List (Int × Int × List Nat)) (r : Int × Int × List Nat) : encLo (l ++ [r]) = encLo l ++ (if r.2.1 < 8 then oneB r.1.toNat r.2.1.toNat r.2.2 else []) := by
  induction l with
  | nil => simp [encLo]
  | cons a l ih => simp only [List.cons_append, encLo, ih, List.append_assoc]
/-- The bytes of the Raws above 8. -/
def encHi : List (Int × Int × List Nat) → List Nat
  | [] => []
  | r :: l => (if 8 < r.2.1 then oneB r.1.toNat r.2.1.toNat r.2.2 else []) ++ encHi l
theorem encHi_snoc (l : List (Int × Int × List Nat)) (r : Int × Int × List Nat) : encHi (l ++ [r]) = encHi l ++ (if 8 < r.2.1 then oneB r.1.toNat r.2.1.toNat r.2.2 else []) := by
  induction l with
  | nil => simp [encHi]
  | cons a l ih => simp only [List.cons_append, encHi, ih, List.append_assoc]
theorem encLo_length (l : List (Int × Int × List Nat)) : (encLo l).length ≤ sumR l + 4 * l.length := by
  induction l with
  | nil => simp [encLo]
  | cons a l ih =>
    simp only [encLo, List.length_append, sumR, List.length_cons]
    have := oneB_length a.1.toNat a.2.1.toNat a.2.2
    split <;> simp <;> omega
theorem encHi_length (l : List (Int × Int × List Nat)) : (encHi l).length ≤ sumR l + 4 * l.length := by
  induction l with
  | nil => simp [encHi]
  | cons a l ih =>
    simp only [encHi, List.length_append, sumR, List.length_cons]
    have := oneB_length a.1.toNat a.2.1.toNat a.2.2
    split <;> simp <;> omega
/-- The bytes of communities. -/
def encC (cs : List Nat) : List Nat := nums (cs.map fun (x : Nat) => (x : Int))
theorem encC_snoc (l : List Nat) (x : Nat) : encC (l ++ [x]) = encC l ++ b4 (x : Int) := by
  unfold encC
  rw [List.map_append, List.map_cons, List.map_nil, nums_snoc]
theorem encC_length (l : List Nat) : (encC l).length = 4 * l.length := by
  unfold encC
  rw [nums_length, List.length_map]
theorem b4_lt (z : Int) : ∀ x ∈ b4 z, x < 256 := by
  intro x hx
  unfold b4 at hx
  obtain ⟨k, _, rfl⟩ := List.mem_map.1 hx
  unfold byteAt; omega
theorem nums_small (l : List Int) : ∀ x ∈ nums l, x < 256 := by
  induction l with
  | nil => simp [nums]
  | cons z l ih =>
    intro x hx
    rw [nums, List.mem_append] at hx
    rcases hx with hx | hx
    · exact b4_lt z x hx
    · exact ih x hx
theorem encSegs_small (l : List (Bool × List Int)) (hl : ∀ s ∈ l, s.2.length ≤ 255) : ∀ x ∈ encSegs l, x < 256 := by
  induction l with
  | nil => simp [encSegs]
  | cons s l ih =>
    intro x hx
    rw [encSegs, List.mem_append] at hx
    rcases hx with hx | hx
    · unfold encSeg at hx
      rw [List.mem_append] at hx
      rcases hx with hx | hx
      · have := hl s (by simp)
        simp only [List.mem_cons, List.not_mem_nil, or_false] at hx
        rcases hx with rfl | rfl
        · unfold kindOf; split <;> omega
        · omega
      · exact nums_small _ x hx
    · exact ih (fun s hs => hl s (List.mem_cons_of_mem _ hs)) x hx
/-- The bytes of ORIGIN, AS_PATH and NEXT_HOP. -/
def enc123 (a : At) : List Nat := oneB 64 1 [a.origin.toNat] ++ oneB 64 2 (encSegs a.path) ++ oneB 64 3 (b4 (a.next : Int))
/-- The bytes of MULTI_EXIT_DISC and LOCAL_PREF. -/
def enc45 (a : At) : List Nat := (if 0 ≤ a.med then oneB 128 4 (b4 a.med) else []) ++ (if 0 ≤ a.pref then oneB 64 5 (b4 a.pref) else [])
/-- The bytes of COMMUNITIES. -/
def enc8 (a : At) : List Nat := if 0 < a.comms.length then oneB 192 8 (encC a.comms) else []
/-- The bytes of attributes. -/
def encA (a : At) : List Nat := if goodA a then enc123 a ++ enc45 a ++ encLo a.raws ++ enc8 a ++ encHi a.raws else []
theorem rawsUp_all {rs : List (Int × Int × List Nat)} : ∀ n, rawsUp rs n = true → ∀ i, i < n → rawK (rs.getD i (0, 0, [])) = true
  | 0, _, i, hi => absurd hi (by omega)
  | n + 1, h, i, hi => by
    rw [rawsUp, Bool.and_eq_true, Bool.and_eq_true] at h
    by_cases e : i = n
    · subst e; exact h.1.2
    · exact rawsUp_all n h.1.1 i (by omega)
theorem rawK_nat {r : Int × Int × List Nat} (h : rawK r = true) : ∃ fl ty : Nat, r.1 = (fl : Int) ∧ r.2.1 = (ty : Int) ∧ fl < 240 ∧ 6 ≤ ty ∧ ty < 256 ∧ ty ≠ 8 ∧ r.2.2.length ≤ 255 := by
  have h9 := of_decide_eq_true h
  refine ⟨r.1.toNat, r.2.1.toNat, ?_, ?_, ?_, ?_, ?_, ?_, ?_⟩ <;> omega
/-- One attribute more. -/
theorem add_one (wB wq : World) (v : Value) (bs : List Nat) (fl ty : Nat) (a : Option Addr) (c : Nat) (ds : List Nat) (ho : wq.ownsRow wB.heap.size 5 1 v bs.length (bcells bs)) (hp : 0 < bs.length) (hb : Below wB.heap.size wB wq) (hd : BRd wq a ds) (hf : fl < 240) (ht : ty < 256) (hl : ds.length ≤ 10000) (hbl : bs.length ≤ 300000) :
    Calls Tryd.prog 32 #[.int .i64 (fl : Int), .int .i64 (ty : Int), .slice a ds.length c] wq fun e w2 => ∃ v2 v3 w3, e = .returned v2 ∧ (Builtin.append_ #[30, 30] 30 #[v, v2]).run Tryd.prog w2 = .ok v3 w3 ∧ w3.ownsRow wB.heap.size 5 1 v3 (bs ++ oneB fl ty ds).length (bcells (bs ++ oneB fl ty ds)) ∧ Below wB.heap.size wB w3 ∧ Below wq.heap.size wq w2 := by
  refine (one_any fl ty a c ds wq hf ht (by omega) hd).mono ?_
  rintro e w2 ⟨v2, rfl, ho2, hb2⟩
  have hol := oneB_length fl ty ds
  obtain ⟨a2, c2, rfl, _, hbr⟩ := own_brd ho2 (by omega) (oneB_lt fl ty ds hf ht (by omega) hd.2)
  have hov := own_later ho hb2
  obtain ⟨g, k, rfl, _, _⟩ := hov.form hp
  obtain ⟨v3, w3, hr, ho3, hb3⟩ := app_brd (oneB fl ty ds) a2 c2 rfl hov (Nat.le_trans hb.size hb2.size) (by omega) hbr
  exact ⟨_, v3, w3, rfl, hr, ho3, (hb.trans (hb2.mono hb.size)).trans hb3, hb2⟩
/-- Four's row, read. -/
theorem four_brd (v : Nat) (w : World) : BRd (w.alloc (.cells (bcells ((List.range 4).map (byteAt v))).toArray 5)) (some ⟨w.heap.size, 0, none⟩) (b4 (v : Int)) := by
  have e : b4 (v : Int) = (List.range 4).map (byteAt v) := by unfold b4; rw [Int.toNat_natCast]
  refine ⟨⟨by rw [b4_length]; unfold maxLen; omega, fun _ => ⟨w.heap.size, 0, rfl, fun i hi => ?_⟩⟩, b4_lt _⟩
  rw [Nat.zero_add, World.cell?_alloc_mark, e]
  rw [e] at hi
  generalize (List.range 4).map (byteAt v) = l at *
  simp [bcells, List.getD_eq_getElem?_getD, hi]
end Go.Proofs.YtempaadgheondaaDoor
