/- The program's ownRaws. -/
import Derived.Test.YtjlmkaeepeamkaaRtK
import Derived.Laws.OwnMore
namespace Go.Proofs.Ytjlmkaeepeamkaa
open Go.RowKit
set_option maxRecDepth 100000

theorem cells_b {w : World} {a : Option Addr} {zs : List Nat} (h : BRd w a zs) : Cells w a zs.length 1 (bcells zs) := by
  refine ⟨by rw [bcells_length]; omega, fun e => ?_, fun ad e j u hu => ?_, bcells_one _⟩
  · cases zs with
    | nil => rfl
    | cons z r => obtain ⟨b, off, e2, _⟩ := h.1.2 (by simp); rw [e] at e2; cases e2
  · have hj : j < zs.length := by have := (List.getElem?_eq_some_iff.1 hu).1; rwa [bcells_length] at this
    obtain ⟨b, off, e2, hc⟩ := h.1.2 (by omega)
    rw [e] at e2
    cases e2
    rw [Addr.add_mid, hc j hj, ← hu]
    simp [bcells, List.getD_eq_getElem?_getD, hj]
theorem cells_raws {w : World} {a : Option Addr} {ss : List (Int × Int × List Nat)} (h : RawRd w a ss) : ∃ xs, Cells w a ss.length 3 xs ∧ ∀ i s, ss[i]? = some s → xs[i * 3]? = some (.int .i64 s.1) ∧ xs[i * 3 + 1]? = some (.int .i64 s.2.1) ∧ ∃ a' c', xs[i * 3 + 2]? = some (.slice a' s.2.2.length c') ∧ BRd w a' s.2.2 := by
  by_cases h0 : ss.length = 0
  · have hs : ss = [] := List.length_eq_zero_iff.1 h0
    subst hs
    exact ⟨[], ⟨by simp, fun _ => rfl, fun _ _ j u hu => by simp at hu, fun u hu => by simp at hu⟩, fun i s hi => by simp at hi⟩
  · obtain ⟨b, off, rfl, hc⟩ := h (by omega)
    have hlt : ∀ j, j < ss.length * 3 → ∃ u, w.cell? ⟨b, off + j, none⟩ = some u ∧ u.oneCell' = true := fun j hj => by
      have hi : j / 3 < ss.length := by omega
      obtain ⟨e0, e1, a', c', e2, _, _⟩ := hc (j / 3) _ (List.getElem?_eq_getElem hi)
      rcases (show j % 3 = 0 ∨ j % 3 = 1 ∨ j % 3 = 2 by omega) with hm | hm | hm
      · exact ⟨_, by rw [show off + j = off + j / 3 * 3 from by omega]; exact e0, rfl⟩
      · exact ⟨_, by rw [show off + j = off + j / 3 * 3 + 1 from by omega]; exact e1, rfl⟩
      · exact ⟨_, by rw [show off + j = off + j / 3 * 3 + 2 from by omega]; exact e2, rfl⟩
    refine ⟨(List.range (ss.length * 3)).map fun j => (w.cell? ⟨b, off + j, none⟩).getD undef, ⟨by simp, fun e => (by cases e), fun ad e j u hu => ?_, fun u hu => ?_⟩, fun i s hi => ?_⟩
    · cases e
      have hj : j < ss.length * 3 := by have := (List.getElem?_eq_some_iff.1 hu).1; simpa using this
      simp [hj] at hu
      obtain ⟨x, hx, _⟩ := hlt j hj
      rw [Addr.add_mid, hx]
      rw [hx] at hu
      simpa using hu
    · obtain ⟨j, hj, rfl⟩ := List.mem_map.1 hu
      obtain ⟨x, hx, h1⟩ := hlt j (by simpa using hj)
      rw [hx]
      exact h1
    · have hil := (List.getElem?_eq_some_iff.1 hi).1
      have key : ∀ q x, q < 3 → w.cell? ⟨b, off + i * 3 + q, none⟩ = some x → ((List.range (ss.length * 3)).map fun j => (w.cell? ⟨b, off + j, none⟩).getD undef)[i * 3 + q]? = some x := fun q x hq hx => by
        have hj : i * 3 + q < ss.length * 3 := by omega
        rw [Nat.add_assoc] at hx
        simp [hj, hx]
      obtain ⟨e0, e1, a', c', e2, _, e3⟩ := hc i s hi
      exact ⟨key 0 _ (by omega) e0, key 1 _ (by omega) e1, a', c', key 2 _ (by omega) e2, e3⟩
/-- k of the parts are the call's own by now. -/
def Unraws (w wq : World) (B k g c : Nat) (ss : List (Int × Int × List Nat)) : Prop :=
  ∃ cs, wq.ownsRow B 63 3 (.slice (some ⟨g, 0, none⟩) ss.length c) ss.length cs ∧ ∀ i s, ss[i]? = some s → cs[i * 3]? = some (.int .i64 s.1) ∧ cs[i * 3 + 1]? = some (.int .i64 s.2.1) ∧ (i < k → ∃ u, cs[i * 3 + 2]? = some u ∧ wq.ownsRow B 5 1 u s.2.2.length (bcells s.2.2)) ∧ (k ≤ i → ∃ a' c', cs[i * 3 + 2]? = some (.slice a' s.2.2.length c') ∧ BRd w a' s.2.2)
theorem Unraws.at {w wq : World} {B k g c : Nat} {ss : List (Int × Int × List Nat)} (h : Unraws w wq B k g c ss) (hk : k < ss.length) : ∃ a' c', wq.cell? ⟨g, k * 3 + 2, none⟩ = some (.slice a' (ss[k]).2.2.length c') ∧ wq.frozen? ⟨g, k * 3 + 2, none⟩ = false ∧ g < wq.heap.size ∧ (BRd w a' (ss[k]).2.2) := by
  obtain ⟨cs, ho, hc⟩ := h
  obtain ⟨h0, h00, _, h2⟩ := hc k _ (List.getElem?_eq_getElem hk)
  obtain ⟨a', c', h3, h4⟩ := h2 (Nat.le_refl _)
  exact ⟨a', c', by rw [ho.cellAt (k * 3 + 2) (by omega)]; exact h3, ho.frozenAt _, (ho.lt g rfl).2, h4⟩
theorem Unraws.step {w wq w' : World} {B k g c : Nat} {ss : List (Int × Int × List Nat)} {u : Value} (h : Unraws w wq B k g c ss) (hk : k < ss.length) (hb : Below wq.heap.size wq w') (hB : B ≤ wq.heap.size) (hu : w'.ownsRow wq.heap.size 5 1 u (ss[k]).2.2.length (bcells (ss[k]).2.2)) : Unraws w (w'.setCell ⟨g, k * 3 + 2, none⟩ u) B (k + 1) g c ss := by
  obtain ⟨cs, ho, hc⟩ := h
  have ho2 := own_later ho hb
  obtain ⟨ho3, hg⟩ := ho2.stored (k * 3 + 2) u
  have hcl : cs.length = ss.length * 3 := ho.1
  have hap : ∀ (x : Value) (m : Nat) (ys : List Value), w'.ownsRow B 5 1 x m ys → (w'.setCell ⟨g, k * 3 + 2, none⟩ u).ownsRow B 5 1 x m ys := fun x m ys hx =>
    own_grown hx hg (fun q hq => fun e => own_apart hx ho2 (by decide) q hq (by injection e with e; rw [← e]; rfl))
  refine ⟨_, ho3, fun i s hi => ?_⟩
  have hil := (List.getElem?_eq_some_iff.1 hi).1
  obtain ⟨h0, h00, h1, h2⟩ := hc i s hi
  have hne : ∀ q, i * 3 + q ≠ k * 3 + 2 → (cs.set (k * 3 + 2) u)[i * 3 + q]? = cs[i * 3 + q]? := fun q hq => List.getElem?_set_ne (by omega)
  refine ⟨by have := hne 0 (by omega); simp only [Nat.add_zero] at this; rw [this]; exact h0, by rw [hne 1 (by omega)]; exact h00, fun hlt => ?_, fun hle => ?_⟩
  · by_cases e : i = k
    · subst e
      rw [List.getElem?_eq_getElem hil] at hi
      injection hi with hi
      subst hi
      refine ⟨u, ?_, hap _ _ _ (own_base hu hB)⟩
      rw [List.getElem?_set_self (by omega)]
    · obtain ⟨x, h3, h4⟩ := h1 (by omega)
      exact ⟨x, by rw [hne 2 (by omega)]; exact h3, hap _ _ _ (own_later h4 hb)⟩
  · obtain ⟨a', c', h3, h4⟩ := h2 (by omega)
    exact ⟨a', c', by rw [hne 2 (by omega)]; exact h3, h4⟩
theorem Unraws.done {w wq : World} {B g c : Nat} {ss : List (Int × Int × List Nat)} (h : Unraws w wq B ss.length g c ss) : OwnRaws wq B (.slice (some ⟨g, 0, none⟩) ss.length c) ss := by
  obtain ⟨cs, ho, hc⟩ := h
  refine ⟨cs, ho, fun i s hi => ?_⟩
  obtain ⟨h0, h00, h1, _⟩ := hc i s hi
  exact ⟨h0, h00, h1 (List.getElem?_eq_some_iff.1 hi).1⟩
set_option maxHeartbeats 800000 in
theorem own_raws_none (a : Option Addr) (c : Nat) (w : World) : Calls Try.prog 36 #[.slice a 0 c] w fun e w' => ∃ a9 c9, e = .returned (.slice a9 0 c9) ∧ w'.ownsRow w.heap.size 63 3 (.slice a9 0 c9) 0 [] ∧ Below w.heap.size w w' := by
  have HK := hide (clone_r a 0 c [] w (by omega) ⟨by simp, fun _ => rfl, fun _ _ j u hu => by simp at hu, fun u hu => by simp at hu⟩)
  go_enter Try.func36, Try.ntmps36
  go_wp2_with fail
  refine HK.out.mono ?_
  rintro e w1 ⟨a9, c9, rfl, ho, hb⟩
  have HO := hide ho
  have HB := hide hb
  clear HK ho hb
  go_wp2
  go_loop [9] (fun i => i = .int .i64 0) (fun i => 0 - (intOf i).toNat)
  case atStart => exact rfl
  case round =>
    obtain rfl := hrel
    go_wp2
    go_ret
    exact ⟨a9, c9, rfl, HO.out, HB.out⟩
set_option maxHeartbeats 1600000 in
theorem own_raws_some (a : Option Addr) (n c : Nat) (ss : List (Int × Int × List Nat)) (w : World) (hn : ss.length = n) (hp : 0 < n) (hl : ss.length + sumR ss ≤ 100000) (h : RawRd w a ss) :
    Calls Try.prog 36 #[.slice a n c] w fun e w' => ∃ a9 c9, e = .returned (.slice a9 n c9) ∧ OwnRaws w' w.heap.size (.slice a9 n c9) ss ∧ Below w.heap.size w w' := by
  obtain ⟨xs, hxs, hx2⟩ := cells_raws h
  rw [hn] at hxs
  have HK := hide (clone_r a n c xs w (by omega) hxs)
  have HX := hide hx2
  have HN := hide hn
  have hl100 : n ≤ 100000 := by omega
  have HL := hide hl
  clear hxs hx2 h hn hl
  go_enter Try.func36, Try.ntmps36
  go_wp2_with fail
  refine HK.out.mono ?_
  rintro e w1 ⟨a9, c9, rfl, ho, hb⟩
  obtain ⟨g, cap, e9, hgB, _⟩ := ho.form hp
  injection e9 with e1 e2 e3
  subst e1 e3
  have HU : Hid (Unraws w w1 w.heap.size 0 g c9 ss) := ⟨xs, by rw [HN.out]; exact ho, fun i s hi => ⟨(HX.out i s hi).1, (HX.out i s hi).2.1, fun h9 => absurd h9 (by omega), fun _ => (HX.out i s hi).2.2⟩⟩
  have HB := hide hb
  clear HK ho hb HX
  go_wp2
  go_loopw [9] (fun i wq => ∃ k : Nat, k ≤ n ∧ i = .int .i64 k ∧ Hid (Unraws w wq w.heap.size k g c9 ss) ∧ Hid (Below w.heap.size w wq)) (fun i _ => n - (intOf i).toNat)
  case atStart => exact ⟨0, Nat.zero_le _, rfl, HU, HB⟩
  case round =>
    clear HU HB
    obtain ⟨k, hk, rfl, HU, HB⟩ := hrel
    by_cases hlt : k < n
    · have hks : k < ss.length := by rw [HN.out]; exact hlt
      obtain ⟨a', c', f1, f2, f3, f4⟩ := HU.out.at hks
      have HKK := hide (clone_b a' _ c' (bcells (ss[k]).2.2) wr (by have := sumR_mem ss _ (List.getElem_mem hks); have := HL.out; omega) (cells_b (f4.below HB.out)))
      have HS : Hid (∀ (w' : World) (u : Value), Below wr.heap.size wr w' → w'.ownsRow wr.heap.size 5 1 u (ss[k]).2.2.length (bcells (ss[k]).2.2) → Unraws w (w'.setCell ⟨g, k * 3 + 2, none⟩ u) w.heap.size (k + 1) g c9 ss) := fun w' u hb hu => HU.out.step hks hb HB.out.size hu
      clear f4
      generalize (ss[k]).2.2 = ds at *
      generalize hll : ds.length = l at f1 HKK HS
      clear hll
      have hk0 : (0 : Int) ≤ (k : Int) := Int.natCast_nonneg _
      have hk1 : (k : Int) < (n : Int) := by omega
      go_wp2_with fail
      refine HKK.out.mono ?_
      rintro e w2 ⟨b9, d9, rfl, ho, hb⟩
      have HU2 := hide (HS.out w2 _ hb ho)
      have HB2 : Hid (Below w.heap.size w w2) := HB.out.trans (hb.mono HB.out.size)
      have p1 : w2.cell? ⟨g, k * 3 + 2, none⟩ = some (.slice a' l c') := by rw [hb.cell (p := ⟨g, k * 3 + 2, none⟩) f3]; exact f1
      have p2 : w2.frozen? ⟨g, k * 3 + 2, none⟩ = false := by rw [hb.frozen (p := ⟨g, k * 3 + 2, none⟩) f3]; exact f2
      have p3 : g < w2.heap.size := Nat.lt_of_lt_of_le f3 hb.size
      clear HKK HS f1 f2 f3 ho hb
      go_wp2
      exact ⟨⟨k + 1, by omega, by go_num, HU2, HB2.out.setCell hgB _⟩, by simp [intOf]; omega⟩
    · have hkn : k = n := by omega
      subst hkn
      go_wp2
      go_ret
      exact ⟨_, _, rfl, by have h9 := HU.out; rw [← HN.out] at h9; rw [← HN.out]; exact h9.done, HB.out⟩
theorem own_raws (a : Option Addr) (c : Nat) (ss : List (Int × Int × List Nat)) (w : World) (hl : ss.length + sumR ss ≤ 100000) (h : RawRd w a ss) :
    Calls Try.prog 36 #[.slice a ss.length c] w fun e w' => ∃ a9 c9, e = .returned (.slice a9 ss.length c9) ∧ OwnRaws w' w.heap.size (.slice a9 ss.length c9) ss ∧ Below w.heap.size w w' := by
  cases ss with
  | nil =>
    refine (own_raws_none a c w).mono ?_
    rintro e w' ⟨a9, c9, rfl, ho, hb⟩
    exact ⟨a9, c9, rfl, ⟨[], ho, fun i s hi => by simp at hi⟩, hb⟩
  | cons s r => exact own_raws_some a _ c _ w rfl (by simp) hl h
end Go.Proofs.Ytjlmkaeepeamkaa
