/- What is known of peers; the document's info, pref, med. -/
import Derived.Test.YtolpaimmmhoiiaaRlA
import Derived.Test.YtolpaimmmhoiiaaPthRd
namespace Go.Proofs.Ytolpaimmmhoiiaa
open Go.RowKit
set_option maxRecDepth 100000

/-- What is known of a peer. -/
structure Inf where
  peer : Int
  num : Int
  id : Nat
def noI : Inf := ⟨0, 0, 0⟩
/-- The first of infos with that number. -/
def infoL : List Inf → Int → Inf
  | [], _ => noI
  | x :: l, p => if x.peer = p then x else infoL l p
theorem infoL_none : ∀ (l : List Inf) (p : Int), (∀ (i : Nat) (x : Inf), l[i]? = some x → x.peer ≠ p) → infoL l p = noI
  | [], _, _ => rfl
  | x :: l, p, h => by
    rw [infoL, if_neg (h 0 x rfl)]
    exact infoL_none l p fun i y hy => h (i + 1) y (by simpa using hy)
theorem infoL_some : ∀ (l : List Inf) (p : Int) (k : Nat) (x : Inf), l[k]? = some x → x.peer = p → (∀ (i : Nat) (y : Inf), i < k → l[i]? = some y → y.peer ≠ p) → infoL l p = x
  | [], _, _, _, h, _, _ => by simp at h
  | y :: l, p, 0, x, h, hp, _ => by
    simp at h
    subst h
    rw [infoL, if_pos hp]
  | y :: l, p, k + 1, x, h, hp, hn => by
    rw [infoL, if_neg (hn 0 y (by omega) rfl)]
    exact infoL_some l p k x (by simpa using h) hp fun i z hi hz => hn (i + 1) z (by omega) (by simpa using hz)
/-- The slice's elements are the infos l. -/
def InfsRd (w : World) (a : Option Addr) (l : List Inf) : Prop := 0 < l.length → ∃ b off, a = some ⟨b, off, none⟩ ∧ ∀ i x, l[i]? = some x → w.cell? ⟨b, off + i * 3, none⟩ = some (.int .i64 x.peer) ∧ w.cell? ⟨b, off + i * 3 + 1, none⟩ = some (.int .i64 x.num) ∧ w.cell? ⟨b, off + i * 3 + 2, none⟩ = some (.int .u32 (x.id : Int))
theorem InfsRd.below {w w' : World} {a : Option Addr} {l : List Inf} (h : InfsRd w a l) (hb : Below w.heap.size w w') : InfsRd w' a l := fun hp => by
  obtain ⟨b, off, e, hc⟩ := h hp
  refine ⟨b, off, e, fun i x hi => ?_⟩
  obtain ⟨h1, h2, h3⟩ := hc i x hi
  exact ⟨by rw [hb.cell (p := ⟨b, off + i * 3, none⟩) (World.block_lt_of_cell? w _ h1)]; exact h1, by rw [hb.cell (p := ⟨b, off + i * 3 + 1, none⟩) (World.block_lt_of_cell? w _ h2)]; exact h2, by rw [hb.cell (p := ⟨b, off + i * 3 + 2, none⟩) (World.block_lt_of_cell? w _ h3)]; exact h3⟩
def infV (x : Inf) : Value := .agg #[.int .i64 x.peer, .int .i64 x.num, .int .u32 (x.id : Int)]
set_option maxHeartbeats 3200000 in
theorem info_any (a : Option Addr) (c : Nat) (l : List Inf) (p : Int) (w : World) (hl : l.length ≤ 100000) (h : InfsRd w a l) :
    Calls Try.prog 37 #[.slice a l.length c, .int .i64 p] w fun e w' => e = .returned (infV (infoL l p)) ∧ Below w.heap.size w w' := by
  have HR := hide h
  clear h
  obtain ⟨n, hn⟩ : ∃ n, n = l.length := ⟨_, rfl⟩
  rw [← hn] at hl ⊢
  have HN := hide hn
  clear hn
  unfold infV
  generalize hx : infoL l p = x at *
  have HX := hide hx
  clear hx
  go_enter Try.func37, Try.ntmps37
  go_wp2
  go_loopw [5] (fun i wq => ∃ k : Nat, k ≤ n ∧ i = .int .i64 k ∧ Hid (∀ (i : Nat) (y : Inf), i < k → l[i]? = some y → y.peer ≠ p) ∧ wq = w.alloc (.cells #[.int .i64 0, .int .i64 0, .int .u32 0] 62)) (fun i _ => n - (intOf i).toNat)
  case atStart => exact ⟨0, Nat.zero_le _, rfl, fun i y hi => absurd hi (by omega), rfl⟩
  case round =>
    obtain ⟨k, hk, rfl, HA, rfl⟩ := hrel
    by_cases hlt : k < n
    · have hkl : k < l.length := by rw [← HN.out]; exact hlt
      obtain ⟨g, o, rfl, hc⟩ := HR.out (by omega)
      obtain ⟨c0, c1, c2⟩ := hc k _ (List.getElem?_eq_getElem hkl)
      have HY : Hid (l[k]? = some l[k]) := List.getElem?_eq_getElem hkl
      generalize l[k] = y at *
      have zg := World.block_lt_of_cell? w _ c0
      simp only at zg
      have hk0 : (0 : Int) ≤ (k : Int) := Int.natCast_nonneg _
      have hkn : (k : Int) < (n : Int) := by omega
      clear hc
      by_cases hp : y.peer = p
      · have HE : Hid (y = x) := by rw [← HX.out]; exact (infoL_some l p k y HY.out hp HA.out).symm
        have f1 : (y.peer == p) = true := by simpa using hp
        have HPP := hide hp
        clear hp
        go_wp2
        refine bodyPost_ret (v := .agg #[.int .i64 y.peer, .int .i64 y.num, .int .u32 (y.id : Int)]) (by simp [results, Try.results37, go_sem]) rfl ⟨by rw [HE.out], ?_⟩
        repeat (first | exact (Below.refl _ _).alloc (Nat.le_refl _) _ | refine Below.setCell ?_ (Nat.le_refl _) _)
      · have f1 : (y.peer == p) = false := by simpa using hp
        have HA2 : Hid (∀ (i : Nat) (z : Inf), i < k + 1 → l[i]? = some z → z.peer ≠ p) := fun i z hi hz => by
          by_cases e : i = k
          · subst e
            have := HY.out
            rw [hz] at this
            cases this
            exact hp
          · exact HA.out i z (by omega) hz
        clear hp
        go_wp2
        exact ⟨⟨k + 1, by omega, by go_num, HA2, trivial⟩, by simp [intOf]; omega⟩
    · have HE : Hid (x = noI) := by rw [← HX.out]; exact infoL_none l p fun i y hy => HA.out i y (by have := (List.getElem?_eq_some_iff.1 hy).1; have := HN.out; omega) hy
      go_wp2
      refine bodyPost_ret (v := .agg #[.int .i64 0, .int .i64 0, .int .u32 0]) (by simp [results, Try.results37, go_sem]) rfl ⟨by rw [HE.out]; rfl, ?_⟩
      repeat (first | exact (Below.refl _ _).alloc (Nat.le_refl _) _ | refine Below.setCell ?_ (Nat.le_refl _) _)
def prefA (a : At) : Int := if a.pref < 0 then 100 else a.pref
def medA (a : At) : Int := if a.med < 0 then 0 else a.med
set_option maxHeartbeats 800000 in
theorem pref_any (pa : Option Addr) (pc : Nat) (ca : Option Addr) (cc : Nat) (ra : Option Addr) (rc : Nat) (a : At) (w : World) : Calls Try.prog 33 #[atV pa pc ca cc ra rc a] w fun e w' => e = .returned (.int .i64 (prefA a)) ∧ Below w.heap.size w w' := by
  unfold atV
  by_cases h : a.pref < 0
  · have HE : Hid ((100 : Int) = prefA a) := by show _ = _; unfold prefA; rw [if_pos h]
    go_enter Try.func33, Try.ntmps33
    go_wp2
    go_ret
    exact ⟨ret_int HE.out, (Below.refl _ _).alloc (Nat.le_refl _) _⟩
  · have HE : Hid (a.pref = prefA a) := by show _ = _; unfold prefA; rw [if_neg h]
    have h2 : decide (a.pref < 0) = false := decide_eq_false h
    clear h
    go_enter Try.func33, Try.ntmps33
    go_wp2
    go_ret
    exact ⟨ret_int HE.out, (Below.refl _ _).alloc (Nat.le_refl _) _⟩
set_option maxHeartbeats 800000 in
theorem med_any (pa : Option Addr) (pc : Nat) (ca : Option Addr) (cc : Nat) (ra : Option Addr) (rc : Nat) (a : At) (w : World) : Calls Try.prog 36 #[atV pa pc ca cc ra rc a] w fun e w' => e = .returned (.int .i64 (medA a)) ∧ Below w.heap.size w w' := by
  unfold atV
  by_cases h : a.med < 0
  · have HE : Hid ((0 : Int) = medA a) := by show _ = _; unfold medA; rw [if_pos h]
    go_enter Try.func36, Try.ntmps36
    go_wp2
    go_ret
    exact ⟨ret_int HE.out, (Below.refl _ _).alloc (Nat.le_refl _) _⟩
  · have HE : Hid (a.med = medA a) := by show _ = _; unfold medA; rw [if_neg h]
    have h2 : decide (a.med < 0) = false := decide_eq_false h
    clear h
    go_enter Try.func36, Try.ntmps36
    go_wp2
    go_ret
    exact ⟨ret_int HE.out, (Below.refl _ _).alloc (Nat.le_refl _) _⟩
end Go.Proofs.Ytolpaimmmhoiiaa
