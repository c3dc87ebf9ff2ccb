/- The program's ownPath. -/
import Derived.Test.YtjlmkaeepeamkaaRtK
import Derived.Laws.OwnMore
namespace Go.Proofs.Ytjlmkaeepeamkaa
open Go.RowKit
set_option maxRecDepth 100000

theorem cells_i {w : World} {a : Option Addr} {zs : List Int} (h : IRd w a zs) : Cells w a zs.length 1 (icells zs) := by
  refine ⟨by rw [icells_length]; omega, fun e => ?_, fun ad e j u hu => ?_, icells_one _⟩
  · cases zs with
    | nil => rfl
    | cons z r => obtain ⟨b, off, e2, _⟩ := h (by simp); rw [e] at e2; cases e2
  · have hj : j < zs.length := by have := (List.getElem?_eq_some_iff.1 hu).1; rwa [icells_length] at this
    obtain ⟨b, off, e2, hc⟩ := h (by omega)
    rw [e] at e2
    cases e2
    rw [Addr.add_mid, hc j _ (List.getElem?_eq_getElem hj)]
    rw [icells_get _ j _ (List.getElem?_eq_getElem hj)] at hu
    exact hu
theorem cells_path {w : World} {a : Option Addr} {ss : List (Bool × List Int)} (h : PthRd w a ss) : ∃ xs, Cells w a ss.length 2 xs ∧ ∀ i s, ss[i]? = some s → xs[i * 2]? = some (.bool s.1) ∧ ∃ a' c', xs[i * 2 + 1]? = some (.slice a' s.2.length c') ∧ IRd w a' s.2 := by
  by_cases h0 : ss.length = 0
  · have hs : ss = [] := List.length_eq_zero_iff.1 h0
    subst hs
    exact ⟨[], ⟨by simp, fun _ => rfl, fun _ _ j u hu => by simp at hu, fun u hu => by simp at hu⟩, fun i s hi => by simp at hi⟩
  · obtain ⟨b, off, rfl, hc⟩ := h.cells (by omega)
    have hlt : ∀ j, j < ss.length * 2 → ∃ u, w.cell? ⟨b, off + j, none⟩ = some u ∧ u.oneCell' = true := fun j hj => by
      have hi : j / 2 < ss.length := by omega
      obtain ⟨e0, a', c', e1, _⟩ := hc (j / 2) _ (List.getElem?_eq_getElem hi)
      rcases Nat.mod_two_eq_zero_or_one j with hm | hm
      · exact ⟨_, by rw [show off + j = off + j / 2 * 2 from by omega]; exact e0, rfl⟩
      · exact ⟨_, by rw [show off + j = off + j / 2 * 2 + 1 from by omega]; exact e1, rfl⟩
    refine ⟨(List.range (ss.length * 2)).map fun j => (w.cell? ⟨b, off + j, none⟩).getD undef, ⟨by simp, fun e => (by cases e), fun ad e j u hu => ?_, fun u hu => ?_⟩, fun i s hi => ?_⟩
    · cases e
      have hj : j < ss.length * 2 := by have := (List.getElem?_eq_some_iff.1 hu).1; simpa using this
      simp [hj] at hu
      obtain ⟨x, hx, _⟩ := hlt j hj
      rw [Addr.add_mid, hx]
      rw [hx] at hu
      simpa using hu
    · obtain ⟨j, hj, rfl⟩ := List.mem_map.1 hu
      obtain ⟨x, hx, h1⟩ := hlt j (by simpa using hj)
      rw [hx]
      exact h1
    · have hil := (List.getElem?_eq_some_iff.1 hi).1
      have key : ∀ q x, q < 2 → w.cell? ⟨b, off + i * 2 + q, none⟩ = some x → ((List.range (ss.length * 2)).map fun j => (w.cell? ⟨b, off + j, none⟩).getD undef)[i * 2 + q]? = some x := fun q x hq hx => by
        have hj : i * 2 + q < ss.length * 2 := by omega
        rw [Nat.add_assoc] at hx
        simp [hj, hx]
      obtain ⟨e0, a', c', e1, e2⟩ := hc i s hi
      exact ⟨key 0 _ (by omega) e0, a', c', key 1 _ (by omega) e1, e2⟩
/-- k of the parts are the call's own by now. -/
def Unpath (w wq : World) (B k g c : Nat) (ss : List (Bool × List Int)) : Prop :=
  ∃ cs, wq.ownsRow B 60 2 (.slice (some ⟨g, 0, none⟩) ss.length c) ss.length cs ∧ ∀ i s, ss[i]? = some s → cs[i * 2]? = some (.bool s.1) ∧ (i < k → ∃ u, cs[i * 2 + 1]? = some u ∧ wq.ownsRow B 3 1 u s.2.length (icells s.2)) ∧ (k ≤ i → ∃ a' c', cs[i * 2 + 1]? = some (.slice a' s.2.length c') ∧ IRd w a' s.2)
theorem Unpath.at {w wq : World} {B k g c : Nat} {ss : List (Bool × List Int)} (h : Unpath w wq B k g c ss) (hk : k < ss.length) : ∃ a' c', wq.cell? ⟨g, k * 2 + 1, none⟩ = some (.slice a' (ss[k]).2.length c') ∧ wq.frozen? ⟨g, k * 2 + 1, none⟩ = false ∧ g < wq.heap.size ∧ (IRd w a' (ss[k]).2) := by
  obtain ⟨cs, ho, hc⟩ := h
  obtain ⟨h0, _, h2⟩ := hc k _ (List.getElem?_eq_getElem hk)
  obtain ⟨a', c', h3, h4⟩ := h2 (Nat.le_refl _)
  exact ⟨a', c', by rw [ho.cellAt (k * 2 + 1) (by omega)]; exact h3, ho.frozenAt _, (ho.lt g rfl).2, h4⟩
theorem Unpath.step {w wq w' : World} {B k g c : Nat} {ss : List (Bool × List Int)} {u : Value} (h : Unpath w wq B k g c ss) (hk : k < ss.length) (hb : Below wq.heap.size wq w') (hB : B ≤ wq.heap.size) (hu : w'.ownsRow wq.heap.size 3 1 u (ss[k]).2.length (icells (ss[k]).2)) : Unpath w (w'.setCell ⟨g, k * 2 + 1, none⟩ u) B (k + 1) g c ss := by
  obtain ⟨cs, ho, hc⟩ := h
  have ho2 := own_later ho hb
  obtain ⟨ho3, hg⟩ := ho2.stored (k * 2 + 1) u
  have hcl : cs.length = ss.length * 2 := ho.1
  have hap : ∀ (x : Value) (m : Nat) (ys : List Value), w'.ownsRow B 3 1 x m ys → (w'.setCell ⟨g, k * 2 + 1, none⟩ u).ownsRow B 3 1 x m ys := fun x m ys hx =>
    own_grown hx hg (fun q hq => fun e => own_apart hx ho2 (by decide) q hq (by injection e with e; rw [← e]; rfl))
  refine ⟨_, ho3, fun i s hi => ?_⟩
  have hil := (List.getElem?_eq_some_iff.1 hi).1
  obtain ⟨h0, h1, h2⟩ := hc i s hi
  have hne : ∀ q, i * 2 + q ≠ k * 2 + 1 → (cs.set (k * 2 + 1) u)[i * 2 + q]? = cs[i * 2 + q]? := fun q hq => List.getElem?_set_ne (by omega)
  refine ⟨by have := hne 0 (by omega); simp only [Nat.add_zero] at this; rw [this]; exact h0, fun hlt => ?_, fun hle => ?_⟩
  · by_cases e : i = k
    · subst e
      rw [List.getElem?_eq_getElem hil] at hi
      injection hi with hi
      subst hi
      refine ⟨u, ?_, hap _ _ _ (own_base hu hB)⟩
      rw [List.getElem?_set_self (by omega)]
    · obtain ⟨x, h3, h4⟩ := h1 (by omega)
      exact ⟨x, by rw [hne 1 (by omega)]; exact h3, hap _ _ _ (own_later h4 hb)⟩
  · obtain ⟨a', c', h3, h4⟩ := h2 (by omega)
    exact ⟨a', c', by rw [hne 1 (by omega)]; exact h3, h4⟩
theorem Unpath.done {w wq : World} {B g c : Nat} {ss : List (Bool × List Int)} (h : Unpath w wq B ss.length g c ss) : OwnPath wq B (.slice (some ⟨g, 0, none⟩) ss.length c) ss := by
  obtain ⟨cs, ho, hc⟩ := h
  refine ⟨cs, ho, fun i s hi => ?_⟩
  obtain ⟨h0, h1, _⟩ := hc i s hi
  exact ⟨h0, h1 (List.getElem?_eq_some_iff.1 hi).1⟩
set_option maxHeartbeats 800000 in
theorem own_path_none (a : Option Addr) (c : Nat) (w : World) : Calls Try.prog 34 #[.slice a 0 c] w fun e w' => ∃ a9 c9, e = .returned (.slice a9 0 c9) ∧ w'.ownsRow w.heap.size 60 2 (.slice a9 0 c9) 0 [] ∧ Below w.heap.size w w' := by
  have HK := hide (clone_s a 0 c [] w (by omega) ⟨by simp, fun _ => rfl, fun _ _ j u hu => by simp at hu, fun u hu => by simp at hu⟩)
  go_enter Try.func34, Try.ntmps34
  go_wp2_with fail
  refine HK.out.mono ?_
  rintro e w1 ⟨a9, c9, rfl, ho, hb⟩
  have HO := hide ho
  have HB := hide hb
  clear HK ho hb
  go_wp2
  go_loop [9] (fun i => i = .int .i64 0) (fun i => 0 - (intOf i).toNat)
  case atStart => exact rfl
  case round =>
    obtain rfl := hrel
    go_wp2
    go_ret
    exact ⟨a9, c9, rfl, HO.out, HB.out⟩
set_option maxHeartbeats 1600000 in
theorem own_path_some (a : Option Addr) (n c : Nat) (ss : List (Bool × List Int)) (w : World) (hn : ss.length = n) (hp : 0 < n) (hl : ss.length + sumP ss ≤ 100000) (h : PthRd w a ss) :
    Calls Try.prog 34 #[.slice a n c] w fun e w' => ∃ a9 c9, e = .returned (.slice a9 n c9) ∧ OwnPath w' w.heap.size (.slice a9 n c9) ss ∧ Below w.heap.size w w' := by
  obtain ⟨xs, hxs, hx2⟩ := cells_path h
  rw [hn] at hxs
  have HK := hide (clone_s a n c xs w (by omega) hxs)
  have HX := hide hx2
  have HN := hide hn
  have hl100 : n ≤ 100000 := by omega
  have HL := hide hl
  clear hxs hx2 h hn hl
  go_enter Try.func34, Try.ntmps34
  go_wp2_with fail
  refine HK.out.mono ?_
  rintro e w1 ⟨a9, c9, rfl, ho, hb⟩
  obtain ⟨g, cap, e9, hgB, _⟩ := ho.form hp
  injection e9 with e1 e2 e3
  subst e1 e3
  have HU : Hid (Unpath w w1 w.heap.size 0 g c9 ss) := ⟨xs, by rw [HN.out]; exact ho, fun i s hi => ⟨(HX.out i s hi).1, fun h9 => absurd h9 (by omega), fun _ => (HX.out i s hi).2⟩⟩
  have HB := hide hb
  clear HK ho hb HX
  go_wp2
  go_loopw [9] (fun i wq => ∃ k : Nat, k ≤ n ∧ i = .int .i64 k ∧ Hid (Unpath w wq w.heap.size k g c9 ss) ∧ Hid (Below w.heap.size w wq)) (fun i _ => n - (intOf i).toNat)
  case atStart => exact ⟨0, Nat.zero_le _, rfl, HU, HB⟩
  case round =>
    clear HU HB
    obtain ⟨k, hk, rfl, HU, HB⟩ := hrel
    by_cases hlt : k < n
    · have hks : k < ss.length := by rw [HN.out]; exact hlt
      obtain ⟨a', c', f1, f2, f3, f4⟩ := HU.out.at hks
      have HKK := hide (clone_i a' _ c' (icells (ss[k]).2) wr (by have := sumP_mem ss _ (List.getElem_mem hks); have := HL.out; omega) (cells_i (f4.below HB.out)))
      have HS : Hid (∀ (w' : World) (u : Value), Below wr.heap.size wr w' → w'.ownsRow wr.heap.size 3 1 u (ss[k]).2.length (icells (ss[k]).2) → Unpath w (w'.setCell ⟨g, k * 2 + 1, none⟩ u) w.heap.size (k + 1) g c9 ss) := fun w' u hb hu => HU.out.step hks hb HB.out.size hu
      clear f4
      generalize (ss[k]).2 = ds at *
      generalize hll : ds.length = l at f1 HKK HS
      clear hll
      have hk0 : (0 : Int) ≤ (k : Int) := Int.natCast_nonneg _
      have hk1 : (k : Int) < (n : Int) := by omega
      go_wp2_with fail
      refine HKK.out.mono ?_
      rintro e w2 ⟨b9, d9, rfl, ho, hb⟩
      have HU2 := hide (HS.out w2 _ hb ho)
      have HB2 : Hid (Below w.heap.size w w2) := HB.out.trans (hb.mono HB.out.size)
      have p1 : w2.cell? ⟨g, k * 2 + 1, none⟩ = some (.slice a' l c') := by rw [hb.cell (p := ⟨g, k * 2 + 1, none⟩) f3]; exact f1
      have p2 : w2.frozen? ⟨g, k * 2 + 1, none⟩ = false := by rw [hb.frozen (p := ⟨g, k * 2 + 1, none⟩) f3]; exact f2
      have p3 : g < w2.heap.size := Nat.lt_of_lt_of_le f3 hb.size
      clear HKK HS f1 f2 f3 ho hb
      go_wp2
      exact ⟨⟨k + 1, by omega, by go_num, HU2, HB2.out.setCell hgB _⟩, by simp [intOf]; omega⟩
    · have hkn : k = n := by omega
      subst hkn
      go_wp2
      go_ret
      exact ⟨_, _, rfl, by have h9 := HU.out; rw [← HN.out] at h9; rw [← HN.out]; exact h9.done, HB.out⟩
theorem own_path (a : Option Addr) (c : Nat) (ss : List (Bool × List Int)) (w : World) (hl : ss.length + sumP ss ≤ 100000) (h : PthRd w a ss) :
    Calls Try.prog 34 #[.slice a ss.length c] w fun e w' => ∃ a9 c9, e = .returned (.slice a9 ss.length c9) ∧ OwnPath w' w.heap.size (.slice a9 ss.length c9) ss ∧ Below w.heap.size w w' := by
  cases ss with
  | nil =>
    refine (own_path_none a c w).mono ?_
    rintro e w' ⟨a9, c9, rfl, ho, hb⟩
    exact ⟨a9, c9, rfl, ⟨[], ho, fun i s hi => by simp at hi⟩, hb⟩
  | cons s r => exact own_path_some a _ c _ w rfl (by simp) hl h
end Go.Proofs.Ytjlmkaeepeamkaa
