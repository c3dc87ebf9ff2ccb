/- What the laws of attributes share: the first attribute of good ones' bytes; what Decode answers, told shortly; zeros behind a row. -/
import Derived.Test.YtempaadgheondabDoorAtQe
import Derived.Test.YtempaadgheondabDoorAtQ6
import Derived.Test.YtempaadgheondabDoorHPlain
import Derived.Test.YtempaadgheondabDoorBrd2
import Derived.Lib.AppendZerosOnto
import Derived.Laws.OwnMore
namespace Go.Proofs.YtempaadgheondabDoor
open Go.RowKit
set_option maxRecDepth 100000

/-- The bytes behind ORIGIN. -/
def restA (a : At) : List Nat := oneB 64 2 (encSegs a.path) ++ oneB 64 3 (b4 (a.next : Int)) ++ enc45 a ++ encLo a.raws ++ enc8 a ++ encHi a.raws
theorem enc_first {a : At} (h : Fine a) : encA a = [64, 1, 1, a.origin.toNat] ++ restA a := by
  unfold encA
  rw [if_pos h.good]
  unfold enc123 restA
  have e : oneB 64 1 [a.origin.toNat] = [64, 1, 1, a.origin.toNat] := rfl
  rw [e]
  simp only [List.append_assoc]
/-- The same, ORIGIN being 0. -/
def zeroO (a : At) : At := { a with origin := 0 }
theorem fine_zero {a : At} (h : Fine a) : Fine (zeroO a) := by
  obtain ⟨h1, h2, h3⟩ := h
  refine ⟨?_, h2, h3⟩
  have k : goodA a = ((decide (0 ≤ a.origin ∧ a.origin ≤ 2) && goodP a.path && hopB a.next && decide (-1 ≤ a.med ∧ a.med ≤ 4294967295) && decide (-1 ≤ a.pref ∧ a.pref ≤ 4294967295) && decide (a.comms.length ≤ 32)) && rawsUp a.raws a.raws.length) := rfl
  have k0 : goodA (zeroO a) = ((decide ((0 : Int) ≤ 0 ∧ (0 : Int) ≤ 2) && goodP a.path && hopB a.next && decide (-1 ≤ a.med ∧ a.med ≤ 4294967295) && decide (-1 ≤ a.pref ∧ a.pref ≤ 4294967295) && decide (a.comms.length ≤ 32)) && rawsUp a.raws a.raws.length) := rfl
  rw [k] at h1
  rw [k0]
  simp only [Bool.and_eq_true] at h1 ⊢
  exact ⟨⟨⟨⟨⟨⟨rfl, h1.1.1.1.1.1.2⟩, h1.1.1.1.1.2⟩, h1.1.1.1.2⟩, h1.1.1.2⟩, h1.1.2⟩, h1.2⟩
theorem rest_zero (a : At) : restA (zeroO a) = restA a := rfl
/-- With whatever flags that fit. -/
theorem read_fit {a : At} (h : Fine a) (fl : Nat) (hf : fl / 16 % 2 = 0) (h1 : fl / 64 = 1 ∧ fl / 32 % 2 = 0) : readA ([fl, 1, 1, a.origin.toNat] ++ restA a) = .inr a := by
  have ho := h.head.1
  have e1 := read_flags fl a.origin.toNat (restA a) hf (by omega)
  have e2 := read_flags 64 a.origin.toNat (restA a) (by omega) (by omega)
  rw [if_pos h1] at e1
  rw [if_pos (by omega)] at e2
  rw [e1, ← e2, ← enc_first h]
  exact read_back h
theorem read_unfit {a : At} (h : Fine a) (fl : Nat) (hf : fl / 16 % 2 = 0) (h1 : ¬ (fl / 64 = 1 ∧ fl / 32 % 2 = 0)) : readA ([fl, 1, 1, a.origin.toNat] ++ restA a) = .inl (3, 4, [fl, 1, 1, a.origin.toNat]) := by
  have ho := h.head.1
  rw [read_flags fl a.origin.toNat (restA a) hf (by omega), if_neg h1]
/-- Decode's note. -/
theorem dec_note (a : Option Addr) (c n s : Nat) (bs d : List Nat) (w : World) (hS : Said w) (hn : bs.length = n) (hl : n ≤ 10000) (hc : n ≤ c) (h : BRd w a bs) (hr : readA bs = .inl (3, s, d)) (hd : ∀ x ∈ d, x < 256) (hdl : d.length ≤ 100000) :
    Calls Tryd.prog 7 #[.slice a n c] w fun e w' => ∃ a9 c9, e = .returned (.tuple #[.agg #[.int .i64 0, .slice none 0 0, .int .u32 0, .int .i64 0, .int .i64 0, .slice none 0 0, .slice none 0 0], .agg #[.int .i64 3, .int .i64 (s : Int), .slice a9 d.length c9]]) ∧ BRd w' a9 d ∧ Below w.heap.size w w' := by
  subst hn
  refine (decode_any a c bs w hS hl hc h).mono fun e w' ⟨h1, h2⟩ => ?_
  rw [hr] at h1
  obtain ⟨a9, c9, he, ho⟩ := h1
  obtain ⟨a8, c8, e8, _, hb⟩ := own_brd (bs := d) ho (by omega) hd
  simp only [Value.slice.injEq, true_and] at e8
  obtain ⟨rfl, rfl⟩ := e8
  exact ⟨a9, c9, he, hb, h2⟩
/-- Decode's attributes. -/
theorem dec_attr (a : Option Addr) (c n : Nat) (bs : List Nat) (b : At) (w : World) (hS : Said w) (hn : bs.length = n) (hl : n ≤ 10000) (hc : n ≤ c) (h : BRd w a bs) (hr : readA bs = .inr b) :
    Calls Tryd.prog 7 #[.slice a n c] w fun e w' => ∃ p1 k1 p5 k5 p6 k6, e = .returned (.tuple #[.agg #[.int .i64 b.origin, .slice p1 b.path.length k1, .int .u32 (b.next : Int), .int .i64 b.med, .int .i64 b.pref, .slice p5 b.comms.length k5, .slice p6 b.raws.length k6], .agg #[.int .i64 0, .int .i64 0, .slice none 0 0]]) ∧ Below w.heap.size w w' := by
  subst hn
  refine (decode_any a c bs w hS hl hc h).mono fun e w' ⟨h1, h2⟩ => ?_
  rw [hr] at h1
  obtain ⟨p1, k1, p5, k5, p6, k6, he, _⟩ := h1
  exact ⟨p1, k1, p5, k5, p6, k6, he, h2⟩
/-- A row's first byte is changed. -/
theorem brd_set0 {w : World} {B g n k : Nat} {x y : Nat} {t : List Nat} (ho : w.ownsRow B 5 1 (.slice (some ⟨g, 0, none⟩) n k) n (bcells (x :: t))) (hn : (x :: t).length = n) (hl : n ≤ 500000) (hy : y < 256) (ht : ∀ z ∈ t, z < 256) : BRd (w.setCell ⟨g, 0, none⟩ (.int .u8 (y : Int))) (some ⟨g, 0, none⟩) (y :: t) := by
  refine ⟨⟨by have e : (y :: t).length = n := by rw [← hn]; rfl
              rw [e]; unfold maxLen; omega, fun _ => ⟨g, 0, rfl, fun i hi => ?_⟩⟩, fun z hz => ?_⟩
  · have hi2 : i < n := by rw [← hn]; simpa using hi
    have hc := ho.cellAt i (by omega)
    rw [Nat.zero_add]
    by_cases h0 : i = 0
    · subst h0
      have hx : w.cell? ⟨g, 0, none⟩ = some (.int .u8 (x : Int)) := by rw [hc]; rfl
      rw [World.cell?_setCell_same _ _ _ hx]
      rfl
    · rw [World.cell?_setCell_other _ _ _ _ (by intro e9; injection e9 with _ e2 _; omega), hc]
      obtain ⟨j, rfl⟩ : ∃ j, i = j + 1 := ⟨i - 1, by omega⟩
      have hj : j < t.length := by simpa using hi
      simp [bcells, hj]
  · rcases List.mem_cons.1 hz with rfl | hz
    · exact hy
    · exact ht z hz
/-- Zeros behind a row that has no room. -/
theorem app_zeros {w : World} {B g n : Nat} {bs : List Nat} (hn : bs.length = n) (hc : ∀ (j x : Nat), bs[j]? = some x → w.cell? ⟨g, j, none⟩ = some (.int .u8 (x : Int))) (ho : w.ownsRow B 5 1 (.slice (some ⟨g, 0, none⟩) n n) n (bcells bs)) (hB : B ≤ w.heap.size) (m : Nat) (hl : n + m ≤ 1000) :
    ∃ v' w', (Builtin.append_ #[28, 3] 28 #[.slice (some ⟨g, 0, none⟩) n n, .int .i64 (m : Int)]).run Tryd.prog w = .ok v' w' ∧ w'.ownsRow B 5 1 v' (bs ++ List.replicate m 0).length (bcells (bs ++ List.replicate m 0)) ∧ Below B w w' := by
  obtain ⟨i, h1, h2, h3, h4⟩ := info_parts Tryd.infoU8
  by_cases h0 : m = 0
  · subst h0
    refine ⟨.slice (some ⟨g, 0, none⟩) n n, w, ?_, by rw [List.replicate_zero, List.append_nil, hn]; exact ho, Below.refl _ _⟩
    have ht := Tryd.underlying28
    have htn := Tryd.underlying3
    have hw0 : IntKind.i64.wrap 0 = 0 := by decide
    simp [Builtin.append_, run_underlying ht, run_underlying htn, sizeOf, typeInfo, h1, h4, asInt, go_sem, storeCells, hw0]
  · have hr := Lib.run_append_grow_zeros (P := Tryd.prog) w 28 3 28 5 i (.int .u8 0) .i64 .i64 Tryd.underlying28 Tryd.underlying3 h1 h2 (some ⟨g, 0, none⟩) n n (bcells bs)
      (run_firstCells_some (P := Tryd.prog) w.drew i.size n ⟨g, 0, none⟩ n n (bcells bs) (by rw [bcells_length, h3]; omega) (fun j v hv => by
        have hj : j < bs.length := by have := (List.getElem?_eq_some_iff.1 hv).1; rwa [bcells_length] at this
        have hx := hc j bs[j] (List.getElem?_eq_getElem hj)
        rw [Addr.add_mid, Nat.zero_add, World.cell?_drew, hx, ← hv]
        simp [bcells, hj])) m (by omega) (by omega) (by omega) (by omega) (by rw [h4]; omega) (by rw [h4]; exact growslice_fits (by omega) (by omega))
    have hlen : (bs ++ List.replicate m 0).length = n + m := by simp [hn]
    rw [hlen]
    have hge := grownCap_ge w (n + m) n 5
    have hle := grownCap_le_maxLen w (n + m) n 5 (by unfold maxLen; omega)
    generalize grownCap w (n + m) n 5 = cap at *
    have hz1 : (Value.int IntKind.u8 0).cells.size = 1 := rfl
    have hzc : (Builtin.zeroCells (Value.int IntKind.u8 0).cells m).toList = bcells (List.replicate m 0) := by
      unfold Builtin.zeroCells bcells
      apply List.ext_getElem
      · simp [hz1]
      · intro q h8 h9
        simp [Value.cells, Nat.mod_one]
    refine ⟨_, _, hr, ⟨by rw [bcells_length, hlen, Nat.mul_one], .inr ⟨w.heap.size, cap, _, rfl, by omega, heap_alloc_new (World.drew w) _, hge, hle, ?_, ?_⟩⟩, ⟨rfl, rfl, rfl, by simp, fun k hk => heap_alloc_old (World.drew w) _ (by show k < w.heap.size; omega)⟩⟩
    · simp only [Array.size_append, List.size_toArray, size_zeroCells, hz1, bcells_length, hn]
      omega
    · rw [Nat.mul_one, bcells_app]
      simp only [Array.toList_append, hzc]
      exact List.take_left' (by simp [bcells]; omega)
end Go.Proofs.YtempaadgheondabDoor
