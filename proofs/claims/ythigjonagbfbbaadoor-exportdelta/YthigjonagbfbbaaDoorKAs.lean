/- The program's ownPath. -/
import Derived.Test.YthigjonagbfbbaaDoorKAk
import Derived.Laws.OwnMore
namespace Go.Proofs.YthigjonagbfbbaaDoor
open Go.RowKit
set_option maxRecDepth 100000

theorem cells_i {w : World} {a : Option Addr} {zs : List Int} (h : IRd w a zs) : Cells w a zs.length 1 (icells zs) := by
  refine ⟨by rw [icells_length]; omega, fun e => ?_, fun ad e j u hu => ?_, icells_one _⟩
  · cases zs with
    | nil => rfl
    | cons z r => obtain ⟨b, off, e2, _⟩ := h (by simp); rw [e] at e2; cases e2
  · have hj : j < zs.length := by have := (List.getElem?_eq_some_iff.1 hu).1; rwa [icells_length] at this
    obtain ⟨b, off, e2, hc⟩ := h (by omega)
    rw [e] at e2
    cases e2
    rw [Addr.add_mid, hc j _ (List.getElem?_eq_getElem hj)]
    rw [icells_get _ j _ (List.getElem?_eq_getElem hj)] at hu
    exact hu
theorem cells_path {w : World} {a : Option Addr} {ss : List (Bool × List Int)} (h : PthRd w a ss) : ∃ xs, Cells w a ss.length 2 xs ∧ ∀ i s, ss[i]? = some s → xs[i * 2]? = some (.bool s.1) ∧ ∃ a' c', xs[i * 2 + 1]? = some (.slice a' s.2.length c') ∧ IRd w a' s.2 := by
  by_cases h0 : ss.length = 0
  · have hs : ss = [] := List.length_eq_zero_iff.1 h0
    subst hs
    exact ⟨[], ⟨by simp, fun _ => rfl, fun _ _ j u hu => by simp at hu, fun u hu => by simp at hu⟩, fun i s hi => by simp at hi⟩
  · obtain ⟨b, off, rfl, hc⟩ := h.cells (by omega)
    have hlt : ∀ j, j < ss.length * 2 → ∃ u, w.cell? ⟨b, off + j, none⟩ = some u ∧ u.oneCell' = true := fun j hj => by
      have hi : j / 2 < ss.length := by omega
      obtain ⟨e0, a', c', e1, _⟩ := hc (j / 2) _ (List.getElem?_eq_getElem hi)
      rcases Nat.mod_two_eq_zero_or_one j with hm | hm
      · exact ⟨_, by rw [show off + j = off + j / 2 * 2 from by omega]; exact e0, rfl⟩
      · exact ⟨_, by rw [show off + j = off + j / 2 * 2 + 1 from by omega]; exact e1, rfl⟩
    refine ⟨(List.range (ss.length * 2)).map fun j => (w.cell? ⟨b, off + j, none⟩).getD undef, ⟨by simp, fun e => (by cases e), fun ad e j u hu => ?_, fun u hu => ?_⟩, fun i s hi => ?_⟩
    · cases e
      have hj : j < ss.length * 2 := by have := (List.getElem?_eq_some_iff.1 hu).1; simpa using this
      simp [hj] at hu
      obtain ⟨x, hx, _⟩ := hlt j hj
      rw [Addr.add_mid, hx]
      rw [hx] at hu
      simpa using hu
    · obtain ⟨j, hj, rfl⟩ := List.mem_map.1 hu
      obtain ⟨x, hx, h1⟩ := hlt j (by simpa using hj)
      rw [hx]
      exact h1
    · have hil := (List.getElem?_eq_some_iff.1 hi).1
      have key : ∀ q x, q < 2 → w.cell? ⟨b, off + i * 2 + q, none⟩ = some x → ((List.range (ss.length * 2)).map fun j => (w.cell? ⟨b, off + j, none⟩).getD undef)[i * 2 + q]? = some x := fun q x hq hx => by
        have hj : i * 2 + q < ss.length * 2 := by omega
        rw [Nat.add_assoc] at hx
        simp [hj, hx]
      obtain ⟨e0, a', c', e1, e2⟩ := hc i s hi
      exact ⟨key 0 _ (by omega) e0, a', c', key 1 _ (by omega) e1, e2⟩
/-- k of the parts are the call's own by now. -/
def Unpath (w wq : World) (B k g c : Nat) (ss : List (Bool × List Int)) : Prop :=
  ∃ cs, wq.ownsRow B 69 2 (.slice (some ⟨g, 0, none⟩) ss.length c) ss.length cs ∧ ∀ i s, ss[i]? = some s → cs[i * 2]? = some (.bool s.1) ∧ (i < k → ∃ u, cs[i * 2 + 1]? = some u ∧ wq.ownsRow B 3 1 u s.2.length (icells s.2)) ∧ (k ≤ i → ∃ a' c', cs[i * 2 + 1]? = some (.slice a' s.2.length c') ∧ IRd w a' s.2)
theorem Unpath.at {w wq : World} {B k g c : Nat} {ss : List (Bool × List Int)} (h : Unpath w wq B k g c ss) (hk : k < ss.length) : ∃ a' c', wq.cell? ⟨g, k * 2 + 1, none⟩ = some (.slice a' (ss[k]).2.length c') ∧ wq.frozen? ⟨g, k * 2 + 1, none⟩ = false ∧ g < wq.heap.size ∧ (IRd w a' (ss[k]).2) := by
  obtain ⟨cs, ho, hc⟩ := h
  obtain ⟨h0, _, h2⟩ := hc k _ (List.getElem?_eq_getElem hk)
  obtain ⟨a', c', h3, h4⟩ := h2 (Nat.le_refl _)
  exact ⟨a', c', by rw [ho.cellAt (k * 2 + 1) (by omega)]; exact h3, ho.frozenAt _, (ho.lt g rfl).2, h4⟩
theorem Unpath.step {w wq w' : World} {B k g c : Nat} {ss : List (Bool × List Int)} {u : Value} (h : Unpath w wq B k g c ss) (hk : k < ss.length) (hb : Below wq.heap.size wq w') (hB : B ≤ wq.heap.size) (hu : w'.ownsRow wq.heap.size 3 1 u (ss[k]).2.length (icells (ss[k]).2)) : Unpath w (w'.setCell ⟨g, k * 2 + 1, none⟩ u) B (k + 1) g c ss := by
  obtain ⟨cs, ho, hc⟩ := h
  have ho2 := own_later ho hb
  obtain ⟨ho3, hg⟩ := ho2.stored (k * 2 + 1) u
  have hcl : cs.length = ss.length * 2 := ho.1
  have hap : ∀ (x : Value) (m : Nat) (ys : List Value), w'.ownsRow B 3 1 x m ys → (w'.setCell ⟨g, k * 2 + 1, none⟩ u).ownsRow B 3 1 x m ys := fun x m ys hx =>
    own_grown hx hg (fun q hq => fun e => own_apart hx ho2 (by decide) q hq (by injection e with e; rw [← e]; rfl))
  refine ⟨_, ho3, fun i s hi => ?_⟩
  have hil := (List.getElem?_eq_some_iff.1 hi).1
  obtain ⟨h0, h1, h2⟩ := hc i s hi
  have hne : ∀ q, i * 2 + q ≠ k * 2 + 1 → (cs.set (k * 2 + 1) u)[i * 2 + q]? = cs[i * 2 + q]? := fun q hq => List.getElem?_set_ne (by omega)
  refine ⟨by have := hne 0 (by omega); simp only [Nat.add_zero] at this; rw [this]; exact h0, fun hlt => ?_, fun hle => ?_⟩
  · by_cases e : i = k
    · subst e
      rw [List.getElem?_eq_getElem hil] at hi
      injection hi with hi
      subst hi
      refine ⟨u, ?_, hap _ _ _ (own_base hu hB)⟩
      rw [List.getElem?_set_self (by omega)]
    · obtain ⟨x, h3, h4⟩ := h1 (by omega)
      exact ⟨x, by rw [hne 1 (by omega)]; exact h3, hap _ _ _ (own_later h4 hb)⟩
  · obtain ⟨a', c', h3, h4⟩ := h2 (by omega)
    exact ⟨a', c', by rw [hne 1 (by omega)]; exact h3, h4⟩
theorem Unpath.done {w wq : World} {B g c : Nat} {ss : List (Bool × List Int)} (h : Unpath w wq B ss.length g c ss) : OwnPath wq B (.slice (some ⟨g, 0, none⟩) ss.length c) ss := by
  obtain ⟨cs, ho, hc⟩ := h
  refine ⟨cs, ho, fun i s hi => ?_⟩
  obtain ⟨h0, h1, _⟩ := hc i s hi
  exact ⟨h0, h1 (List.getElem?_eq_some_iff.1 hi).1⟩
set_option maxHeartbeats 800000 in
theorem own_path_none (a : Option Addr) (c : Nat) (w : World) : Calls Tryd.prog 69 #[.slice a 0 c] w fun e w' => ∃ a9 c9, e = .returned (.slice a9 0 c9) ∧ w'.ownsRow w.heap.size 69 2 (.slice a9 0 c9) 0 [] ∧ Below w.heap.size w w' := by
  have HK := hide (clone_s a 0 c [] w (by omega) ⟨by simp, fun _ => rfl, fun _ _ j u hu => by simp at hu, fun u hu => by simp at hu⟩)
  go_enter Tryd.func69, Tryd.ntmps69
  go_wp2_with fail
  refine HK.out.mono ?_
  rintro e w1 ⟨a9, c9, rfl, ho, hb⟩
  have HO := hide ho
  have HB := hide hb
  clear HK ho hb
  go_wp2
  go_loop [9] (fun i => i = .int .i64 0) (fun i => 0 - (intOf i).toNat)
  case atStart => exact rfl
  case round =>
    obtain rfl := hrel
    go_wp2
    go_ret
    exact ⟨a9, c9, rfl, HO.out, HB.out⟩
set_option maxHeartbeats 1600000 in
theorem own_path_some (a : Option Addr) (n c : Nat) (ss : List (Bool × List Int)) (w : World) (hn : ss.length = n) (hp : 0 < n) (hl : ss.length + sumP ss ≤ 100000) (h : PthRd w a ss) :
    Calls Tryd.prog 69 #[.slice a n c] w fun e w' => ∃ a9 c9, e = .returned (.slice a9 n c9) ∧ OwnPath w' w.heap.size (.slice a9 n c9) ss ∧ Below w.heap.size w w' := by
  obtain ⟨xs, hxs, hx2⟩ := cells_path h
  rw [hn] at hxs
  have HK := hide (clone_s a n c xs w (by omega) hxs)
  have HX := hide hx2
  have HN := hide hn
  have hl100 : n ≤ 100000 := by omega
  have HL := hide hl
  clear hxs hx2 h hn hl
  go_enter Tryd.func69, Tryd.ntmps69
  go_wp2_with fail
  refine HK.out.mono ?_
  rintro e w1 ⟨a9, c9, rfl, ho, hb⟩
  obtain ⟨g, cap, e9, hgB, _⟩ := ho.form hp
  injection e9 with e1 e2 e3
  subst e1 e3
  have HU : Hid (Unpath w w1 w.heap.size 0 g c9 ss) := ⟨xs, by rw [HN.out]; exact ho, fun i s hi => ⟨(HX.out i s hi).1, fun h9 => absurd h9 (by omega), fun _ => (HX.out i s hi).2⟩⟩
  have HB := hide hb
  clear HK ho hb HX
  go_wp2
  go_loopw [9] (fun i wq => ∃ k : Nat, k ≤ n ∧ i = .int .i64 k ∧ Hid (Unpath w wq w.heap.size k g c9 ss) ∧ Hid (Below w.heap.size w wq)) (fun i _ => n - (intOf i).toNat)
  case atStart => exact ⟨0, Nat.zero_le _, rfl, HU, HB⟩
  case round =>
    clear HU HB
    obtain ⟨k, hk, rfl, HU, HB⟩ := hrel
    by_cases hlt : k < n
    · have hks : k < ss.length := by rw [HN.out]; exact hlt
      obtain ⟨a', c', f1, f2, f3, f4⟩ := HU.out.at hks
      have HKK := hide (clone_i a' _ c' (icells (ss[k]).2) wr (by have := sumP_mem ss _ (List.getElem_mem hks); have := HL.out; omega) (cells_i (f4.below HB.out)))
      have HS : Hid (∀ (w' : World) (u : Value), Below wr.heap.size wr w' → w'.ownsRow wr.heap.size 3 1 u (ss[k]).2.length (icells (ss[k]).2) → Unpath w (w'.setCell ⟨g, k * 2 + 1, none⟩ u) w.heap.size (k + 1) g c9 ss) := fun w' u hb hu => HU.out.step hks hb HB.out.size hu
      clear f4
      generalize (ss[k]).2 = ds at *
      generalize hll : ds.length = l at f1 HKK HS
      clear hll
      have hk0 : (0 : Int) ≤ (k : Int) := Int.natCast_nonneg _
      have hk1 : (k : Int) < (n : Int) := by omega
      go_wp2_with fail
      refine HKK.out.mono ?_
      rintro e w2 ⟨b9, d9, rfl, ho, hb⟩
      have HU2 := hide (HS.out w2 _ hb ho)
      have HB2 : Hid (Below w.heap.size w w2) := HB.out.trans (hb.mono HB.out.size)
      have p1 : w2.cell? ⟨g, k * 2 + 1, none⟩ = some (.slice a' l c') := by rw [hb.cell (p := ⟨g, k * 2 + 1, none⟩) f3]; exact f1
      have p2 : w2.frozen? ⟨g, k * 2 + 1, none⟩ = false := by rw [hb.frozen (p := ⟨g, k * 2 + 1, none⟩) f3]; exact f2
      have p3 : g < w2.heap.size := Nat.lt_of_lt_of_le f3 hb.size
      clear HKK HS f1 f2 f3 ho hb
      go_wp2
      exact ⟨⟨k + 1, by omega, by go_num, HU2, HB2.out.setCell hgB _⟩, by simp [intOf]; omega⟩
    · have hkn : k = n := by omega
      subst hkn
      go_wp2
      go_ret
      exact ⟨_, _, rfl, by have h9 := HU.out; rw [← HN.out] at h9; rw [← HN.out]; exact h9.done, HB.out⟩
theorem own_path (a : Option Addr) (c : Nat) (ss : List (Bool × List Int)) (w : World) (hl : ss.length + sumP ss ≤ 100000) (h : PthRd w a ss) :
    Calls Tryd.prog 69 #[.slice a ss.length c] w fun e w' => ∃ a9 c9, e = .returned (.slice a9 ss.length c9) ∧ OwnPath w' w.heap.size (.slice a9 ss.length c9) ss ∧ Below w.heap.size w w' := by
  cases ss with
  | nil =>
    refine (own_path_none a c w).mono ?_
    rintro e w' ⟨a9, c9, rfl, ho, hb⟩
    exact ⟨a9, c9, rfl, ⟨[], ho, fun i s hi => by simp at hi⟩, hb⟩
  | cons s r => exact own_path_some a _ c _ w rfl (by simp) hl h
end Go.Proofs.YthigjonagbfbbaaDoor
/- The program's ownRaws. -/
namespace Go.Proofs.YthigjonagbfbbaaDoor
open Go.RowKit
set_option maxRecDepth 100000

theorem cells_b {w : World} {a : Option Addr} {zs : List Nat} (h : BRd w a zs) : Cells w a zs.length 1 (bcells zs) := by
  refine ⟨by rw [bcells_length]; omega, fun e => ?_, fun ad e j u hu => ?_, bcells_one _⟩
  · cases zs with
    | nil => rfl
    | cons z r => obtain ⟨b, off, e2, _⟩ := h.1.2 (by simp); rw [e] at e2; cases e2
  · have hj : j < zs.length := by have := (List.getElem?_eq_some_iff.1 hu).1; rwa [bcells_length] at this
    obtain ⟨b, off, e2, hc⟩ := h.1.2 (by omega)
    rw [e] at e2
    cases e2
    rw [Addr.add_mid, hc j hj, ← hu]
    simp [bcells, List.getD_eq_getElem?_getD, hj]
theorem cells_raws {w : World} {a : Option Addr} {ss : List (Int × Int × List Nat)} (h : RawRd w a ss) : ∃ xs, Cells w a ss.length 3 xs ∧ ∀ i s, ss[i]? = some s → xs[i * 3]? = some (.int .i64 s.1) ∧ xs[i * 3 + 1]? = some (.int .i64 s.2.1) ∧ ∃ a' c', xs[i * 3 + 2]? = some (.slice a' s.2.2.length c') ∧ BRd w a' s.2.2 := by
  by_cases h0 : ss.length = 0
  · have hs : ss = [] := List.length_eq_zero_iff.1 h0
    subst hs
    exact ⟨[], ⟨by simp, fun _ => rfl, fun _ _ j u hu => by simp at hu, fun u hu => by simp at hu⟩, fun i s hi => by simp at hi⟩
  · obtain ⟨b, off, rfl, hc⟩ := h (by omega)
    have hlt : ∀ j, j < ss.length * 3 → ∃ u, w.cell? ⟨b, off + j, none⟩ = some u ∧ u.oneCell' = true := fun j hj => by
      have hi : j / 3 < ss.length := by omega
      obtain ⟨e0, e1, a', c', e2, _, _⟩ := hc (j / 3) _ (List.getElem?_eq_getElem hi)
      rcases (show j % 3 = 0 ∨ j % 3 = 1 ∨ j % 3 = 2 by omega) with hm | hm | hm
      · exact ⟨_, by rw [show off + j = off + j / 3 * 3 from by omega]; exact e0, rfl⟩
      · exact ⟨_, by rw [show off + j = off + j / 3 * 3 + 1 from by omega]; exact e1, rfl⟩
      · exact ⟨_, by rw [show off + j = off + j / 3 * 3 + 2 from by omega]; exact e2, rfl⟩
    refine ⟨(List.range (ss.length * 3)).map fun j => (w.cell? ⟨b, off + j, none⟩).getD undef, ⟨by simp, fun e => (by cases e), fun ad e j u hu => ?_, fun u hu => ?_⟩, fun i s hi => ?_⟩
    · cases e
      have hj : j < ss.length * 3 := by have := (List.getElem?_eq_some_iff.1 hu).1; simpa using this
      simp [hj] at hu
      obtain ⟨x, hx, _⟩ := hlt j hj
      rw [Addr.add_mid, hx]
      rw [hx] at hu
      simpa using hu
    · obtain ⟨j, hj, rfl⟩ := List.mem_map.1 hu
      obtain ⟨x, hx, h1⟩ := hlt j (by simpa using hj)
      rw [hx]
      exact h1
    · have hil := (List.getElem?_eq_some_iff.1 hi).1
      have key : ∀ q x, q < 3 → w.cell? ⟨b, off + i * 3 + q, none⟩ = some x → ((List.range (ss.length * 3)).map fun j => (w.cell? ⟨b, off + j, none⟩).getD undef)[i * 3 + q]? = some x := fun q x hq hx => by
        have hj : i * 3 + q < ss.length * 3 := by omega
        rw [Nat.add_assoc] at hx
        simp [hj, hx]
      obtain ⟨e0, e1, a', c', e2, _, e3⟩ := hc i s hi
      exact ⟨key 0 _ (by omega) e0, key 1 _ (by omega) e1, a', c', key 2 _ (by omega) e2, e3⟩
/-- k of the parts are the call's own by now. -/
def Unraws (w wq : World) (B k g c : Nat) (ss : List (Int × Int × List Nat)) : Prop :=
  ∃ cs, wq.ownsRow B 73 3 (.slice (some ⟨g, 0, none⟩) ss.length c) ss.length cs ∧ ∀ i s, ss[i]? = some s → cs[i * 3]? = some (.int .i64 s.1) ∧ cs[i * 3 + 1]? = some (.int .i64 s.2.1) ∧ (i < k → ∃ u, cs[i * 3 + 2]? = some u ∧ wq.ownsRow B 5 1 u s.2.2.length (bcells s.2.2)) ∧ (k ≤ i → ∃ a' c', cs[i * 3 + 2]? = some (.slice a' s.2.2.length c') ∧ BRd w a' s.2.2)
theorem Unraws.at {w wq : World} {B k g c : Nat} {ss : List (Int × Int × List Nat)} (h : Unraws w wq B k g c ss) (hk : k < ss.length) : ∃ a' c', wq.cell? ⟨g, k * 3 + 2, none⟩ = some (.slice a' (ss[k]).2.2.length c') ∧ wq.frozen? ⟨g, k * 3 + 2, none⟩ = false ∧ g < wq.heap.size ∧ (BRd w a' (ss[k]).2.2) := by
  obtain ⟨cs, ho, hc⟩ := h
  obtain ⟨h0, h00, _, h2⟩ := hc k _ (List.getElem?_eq_getElem hk)
  obtain ⟨a', c', h3, h4⟩ := h2 (Nat.le_refl _)
  exact ⟨a', c', by rw [ho.cellAt (k * 3 + 2) (by omega)]; exact h3, ho.frozenAt _, (ho.lt g rfl).2, h4⟩
theorem Unraws.step {w wq w' : World} {B k g c : Nat} {ss : List (Int × Int × List Nat)} {u : Value} (h : Unraws w wq B k g c ss) (hk : k < ss.length) (hb : Below wq.heap.size wq w') (hB : B ≤ wq.heap.size) (hu : w'.ownsRow wq.heap.size 5 1 u (ss[k]).2.2.length (bcells (ss[k]).2.2)) : Unraws w (w'.setCell ⟨g, k * 3 + 2, none⟩ u) B (k + 1) g c ss := by
  obtain ⟨cs, ho, hc⟩ := h
  have ho2 := own_later ho hb
  obtain ⟨ho3, hg⟩ := ho2.stored (k * 3 + 2) u
  have hcl : cs.length = ss.length * 3 := ho.1
  have hap : ∀ (x : Value) (m : Nat) (ys : List Value), w'.ownsRow B 5 1 x m ys → (w'.setCell ⟨g, k * 3 + 2, none⟩ u).ownsRow B 5 1 x m ys := fun x m ys hx =>
    own_grown hx hg (fun q hq => fun e => own_apart hx ho2 (by decide) q hq (by injection e with e; rw [← e]; rfl))
  refine ⟨_, ho3, fun i s hi => ?_⟩
  have hil := (List.getElem?_eq_some_iff.1 hi).1
  obtain ⟨h0, h00, h1, h2⟩ := hc i s hi
  have hne : ∀ q, i * 3 + q ≠ k * 3 + 2 → (cs.set (k * 3 + 2) u)[i * 3 + q]? = cs[i * 3 + q]? := fun q hq => List.getElem?_set_ne (by omega)
  refine ⟨by have := hne 0 (by omega); simp only [Nat.add_zero] at this; rw [this]; exact h0, by rw [hne 1 (by omega)]; exact h00, fun hlt => ?_, fun hle => ?_⟩
  · by_cases e : i = k
    · subst e
      rw [List.getElem?_eq_getElem hil] at hi
      injection hi with hi
      subst hi
      refine ⟨u, ?_, hap _ _ _ (own_base hu hB)⟩
      rw [List.getElem?_set_self (by omega)]
    · obtain ⟨x, h3, h4⟩ := h1 (by omega)
      exact ⟨x, by rw [hne 2 (by omega)]; exact h3, hap _ _ _ (own_later h4 hb)⟩
  · obtain ⟨a', c', h3, h4⟩ := h2 (by omega)
    exact ⟨a', c', by rw [hne 2 (by omega)]; exact h3, h4⟩
theorem Unraws.done {w wq : World} {B g c : Nat} {ss : List (Int × Int × List Nat)} (h : Unraws w wq B ss.length g c ss) : OwnRaws wq B (.slice (some ⟨g, 0, none⟩) ss.length c) ss := by
  obtain ⟨cs, ho, hc⟩ := h
  refine ⟨cs, ho, fun i s hi => ?_⟩
  obtain ⟨h0, h00, h1, _⟩ := hc i s hi
  exact ⟨h0, h00, h1 (List.getElem?_eq_some_iff.1 hi).1⟩
set_option maxHeartbeats 800000 in
theorem own_raws_none (a : Option Addr) (c : Nat) (w : World) : Calls Tryd.prog 71 #[.slice a 0 c] w fun e w' => ∃ a9 c9, e = .returned (.slice a9 0 c9) ∧ w'.ownsRow w.heap.size 73 3 (.slice a9 0 c9) 0 [] ∧ Below w.heap.size w w' := by
  have HK := hide (clone_r a 0 c [] w (by omega) ⟨by simp, fun _ => rfl, fun _ _ j u hu => by simp at hu, fun u hu => by simp at hu⟩)
  go_enter Tryd.func71, Tryd.ntmps71
  go_wp2_with fail
  refine HK.out.mono ?_
  rintro e w1 ⟨a9, c9, rfl, ho, hb⟩
  have HO := hide ho
  have HB := hide hb
  clear HK ho hb
  go_wp2
  go_loop [9] (fun i => i = .int .i64 0) (fun i => 0 - (intOf i).toNat)
  case atStart => exact rfl
  case round =>
    obtain rfl := hrel
    go_wp2
    go_ret
    exact ⟨a9, c9, rfl, HO.out, HB.out⟩
set_option maxHeartbeats 1600000 in
theorem own_raws_some (a : Option Addr) (n c : Nat) (ss : List (Int × Int × List Nat)) (w : World) (hn : ss.length = n) (hp : 0 < n) (hl : ss.length + sumR ss ≤ 100000) (h : RawRd w a ss) :
    Calls Tryd.prog 71 #[.slice a n c] w fun e w' => ∃ a9 c9, e = .returned (.slice a9 n c9) ∧ OwnRaws w' w.heap.size (.slice a9 n c9) ss ∧ Below w.heap.size w w' := by
  obtain ⟨xs, hxs, hx2⟩ := cells_raws h
  rw [hn] at hxs
  have HK := hide (clone_r a n c xs w (by omega) hxs)
  have HX := hide hx2
  have HN := hide hn
  have hl100 : n ≤ 100000 := by omega
  have HL := hide hl
  clear hxs hx2 h hn hl
  go_enter Tryd.func71, Tryd.ntmps71
  go_wp2_with fail
  refine HK.out.mono ?_
  rintro e w1 ⟨a9, c9, rfl, ho, hb⟩
  obtain ⟨g, cap, e9, hgB, _⟩ := ho.form hp
  injection e9 with e1 e2 e3
  subst e1 e3
  have HU : Hid (Unraws w w1 w.heap.size 0 g c9 ss) := ⟨xs, by rw [HN.out]; exact ho, fun i s hi => ⟨(HX.out i s hi).1, (HX.out i s hi).2.1, fun h9 => absurd h9 (by omega), fun _ => (HX.out i s hi).2.2⟩⟩
  have HB := hide hb
  clear HK ho hb HX
  go_wp2
  go_loopw [9] (fun i wq => ∃ k : Nat, k ≤ n ∧ i = .int .i64 k ∧ Hid (Unraws w wq w.heap.size k g c9 ss) ∧ Hid (Below w.heap.size w wq)) (fun i _ => n - (intOf i).toNat)
  case atStart => exact ⟨0, Nat.zero_le _, rfl, HU, HB⟩
  case round =>
    clear HU HB
    obtain ⟨k, hk, rfl, HU, HB⟩ := hrel
    by_cases hlt : k < n
    · have hks : k < ss.length := by rw [HN.out]; exact hlt
      obtain ⟨a', c', f1, f2, f3, f4⟩ := HU.out.at hks
      have HKK := hide (clone_b a' _ c' (bcells (ss[k]).2.2) wr (by have := sumR_mem ss _ (List.getElem_mem hks); have := HL.out; omega) (cells_b (f4.below HB.out)))
      have HS : Hid (∀ (w' : World) (u : Value), Below wr.heap.size wr w' → w'.ownsRow wr.heap.size 5 1 u (ss[k]).2.2.length (bcells (ss[k]).2.2) → Unraws w (w'.setCell ⟨g, k * 3 + 2, none⟩ u) w.heap.size (k + 1) g c9 ss) := fun w' u hb hu => HU.out.step hks hb HB.out.size hu
      clear f4
      generalize (ss[k]).2.2 = ds at *
      generalize hll : ds.length = l at f1 HKK HS
      clear hll
      have hk0 : (0 : Int) ≤ (k : Int) := Int.natCast_nonneg _
      have hk1 : (k : Int) < (n : Int) := by omega
      go_wp2_with fail
      refine HKK.out.mono ?_
      rintro e w2 ⟨b9, d9, rfl, ho, hb⟩
      have HU2 := hide (HS.out w2 _ hb ho)
      have HB2 : Hid (Below w.heap.size w w2) := HB.out.trans (hb.mono HB.out.size)
      have p1 : w2.cell? ⟨g, k * 3 + 2, none⟩ = some (.slice a' l c') := by rw [hb.cell (p := ⟨g, k * 3 + 2, none⟩) f3]; exact f1
      have p2 : w2.frozen? ⟨g, k * 3 + 2, none⟩ = false := by rw [hb.frozen (p := ⟨g, k * 3 + 2, none⟩) f3]; exact f2
      have p3 : g < w2.heap.size := Nat.lt_of_lt_of_le f3 hb.size
      clear HKK HS f1 f2 f3 ho hb
      go_wp2
      exact ⟨⟨k + 1, by omega, by go_num, HU2, HB2.out.setCell hgB _⟩, by simp [intOf]; omega⟩
    · have hkn : k = n := by omega
      subst hkn
      go_wp2
      go_ret
      exact ⟨_, _, rfl, by have h9 := HU.out; rw [← HN.out] at h9; rw [← HN.out]; exact h9.done, HB.out⟩
theorem own_raws (a : Option Addr) (c : Nat) (ss : List (Int × Int × List Nat)) (w : World) (hl : ss.length + sumR ss ≤ 100000) (h : RawRd w a ss) :
    Calls Tryd.prog 71 #[.slice a ss.length c] w fun e w' => ∃ a9 c9, e = .returned (.slice a9 ss.length c9) ∧ OwnRaws w' w.heap.size (.slice a9 ss.length c9) ss ∧ Below w.heap.size w w' := by
  cases ss with
  | nil =>
    refine (own_raws_none a c w).mono ?_
    rintro e w' ⟨a9, c9, rfl, ho, hb⟩
    exact ⟨a9, c9, rfl, ⟨[], ho, fun i s hi => by simp at hi⟩, hb⟩
  | cons s r => exact own_raws_some a _ c _ w rfl (by simp) hl h
end Go.Proofs.YthigjonagbfbbaaDoor
/- The program's Own: a route of its own memory. -/
namespace Go.Proofs.YthigjonagbfbbaaDoor
open Go.RowKit
set_option maxRecDepth 100000

/-- All that attributes lead to is new since B. -/
structure OwnAt (w : World) (B : Nat) (pa : Option Addr) (pc : Nat) (ca : Option Addr) (cc : Nat) (ra : Option Addr) (rc : Nat) (a : At) : Prop where
  path : OwnPath w B (.slice pa a.path.length pc) a.path
  comms : w.ownsRow B 22 1 (.slice ca a.comms.length cc) a.comms.length (ucells a.comms)
  raws : OwnRaws w B (.slice ra a.raws.length rc) a.raws
theorem OwnAt.later {w w' : World} {B : Nat} {pa : Option Addr} {pc : Nat} {ca : Option Addr} {cc : Nat} {ra : Option Addr} {rc : Nat} {a : At} (h : OwnAt w B pa pc ca cc ra rc a) (hb : Below w.heap.size w w') : OwnAt w' B pa pc ca cc ra rc a :=
  ⟨h.path.later hb, own_later h.comms hb, h.raws.later hb⟩
theorem own_keeps {F : Nat → Prop} {w w' : World} {B e size n : Nat} {v : Value} {xs : List Value} (h : w.ownsRow B e size v n xs) (hk : Keeps F w w') (hF : ∀ b, B ≤ b → ¬ F b) : w'.ownsRow B e size v n xs := by
  refine ⟨h.1, ?_⟩
  rcases h.2 with hh | ⟨g, cap, cur, e1, hg, hc, rest⟩
  · exact .inl hh
  · exact .inr ⟨g, cap, cur, e1, hg, by rw [hk.block g (Array.getElem?_eq_some_iff.1 hc).1 (hF g hg)]; exact hc, rest⟩
theorem OwnPath.keeps {F : Nat → Prop} {w w' : World} {B : Nat} {v : Value} {ss : List (Bool × List Int)} (h : OwnPath w B v ss) (hk : Keeps F w w') (hF : ∀ b, B ≤ b → ¬ F b) : OwnPath w' B v ss := by
  obtain ⟨cs, ho, hc⟩ := h
  refine ⟨cs, own_keeps ho hk hF, fun i s hi => ?_⟩
  obtain ⟨h1, u, h2, h3⟩ := hc i s hi
  exact ⟨h1, u, h2, own_keeps h3 hk hF⟩
theorem OwnRaws.keeps {F : Nat → Prop} {w w' : World} {B : Nat} {v : Value} {ss : List (Int × Int × List Nat)} (h : OwnRaws w B v ss) (hk : Keeps F w w') (hF : ∀ b, B ≤ b → ¬ F b) : OwnRaws w' B v ss := by
  obtain ⟨cs, ho, hc⟩ := h
  refine ⟨cs, own_keeps ho hk hF, fun i s hi => ?_⟩
  obtain ⟨h1, h2, u, h3, h4⟩ := hc i s hi
  exact ⟨h1, h2, u, h3, own_keeps h4 hk hF⟩
theorem OwnAt.keeps {F : Nat → Prop} {w w' : World} {B : Nat} {pa : Option Addr} {pc : Nat} {ca : Option Addr} {cc : Nat} {ra : Option Addr} {rc : Nat} {a : At} (h : OwnAt w B pa pc ca cc ra rc a) (hk : Keeps F w w') (hF : ∀ b, B ≤ b → ¬ F b) : OwnAt w' B pa pc ca cc ra rc a :=
  ⟨h.path.keeps hk hF, own_keeps h.comms hk hF, h.raws.keeps hk hF⟩
theorem OwnPath.base {w : World} {B B' : Nat} {v : Value} {ss : List (Bool × List Int)} (h : OwnPath w B v ss) (hB : B' ≤ B) : OwnPath w B' v ss := by
  obtain ⟨cs, ho, hc⟩ := h
  refine ⟨cs, own_base ho hB, fun i s hi => ?_⟩
  obtain ⟨h1, u, h2, h3⟩ := hc i s hi
  exact ⟨h1, u, h2, own_base h3 hB⟩
theorem OwnAt.base {w : World} {B B' : Nat} {pa : Option Addr} {pc : Nat} {ca : Option Addr} {cc : Nat} {ra : Option Addr} {rc : Nat} {a : At} (h : OwnAt w B pa pc ca cc ra rc a) (hB : B' ≤ B) : OwnAt w B' pa pc ca cc ra rc a :=
  ⟨h.path.base hB, own_base h.comms hB, h.raws.base hB⟩
/-- What is good of attributes that are read: bytes are bytes. -/
theorem RawRd.bytes {w : World} {a : Option Addr} {rs : List (Int × Int × List Nat)} (h : RawRd w a rs) : ∀ r ∈ rs, ∀ x ∈ r.2.2, x < 256 := by
  intro r hr
  obtain ⟨i, hi, rfl⟩ := List.getElem_of_mem hr
  obtain ⟨b, off, rfl, hc⟩ := h (by omega)
  obtain ⟨_, _, a', c', _, _, h5⟩ := hc i _ (List.getElem?_eq_getElem hi)
  exact h5.2
theorem OwnAt.rd {w : World} {B : Nat} {pa : Option Addr} {pc : Nat} {ca : Option Addr} {cc : Nat} {ra : Option Addr} {rc : Nat} {a : At} (h : OwnAt w B pa pc ca cc ra rc a) (hs : sizeA a ≤ 100000) (hn : a.next < 4294967296) (hb : ∀ r ∈ a.raws, ∀ x ∈ r.2.2, x < 256) : AtRd w pa ca ra a := by
  unfold sizeA at hs
  obtain ⟨_, _, e1, h1⟩ := h.path.rd (by omega) (fun s hs2 => by have := sumP_mem _ _ hs2; omega)
  obtain ⟨_, _, e2, h2⟩ := own_crd h.comms
  obtain ⟨_, _, e3, h3⟩ := h.raws.rd (fun r hr => ⟨by have := sumR_mem _ _ hr; omega, hb r hr⟩)
  injection e1 with e1 _ _
  injection e2 with e2 _ _
  injection e3 with e3 _ _
  subst e1 e2 e3
  exact ⟨h1, h2, h3, hn⟩
/-- What Own answers of r. -/
def OwnIs (w w' : World) (e : Ending) (r : Rt) : Prop := ∃ pa pc ca cc ra rc, e = .returned (rtV pa pc ca cc ra rc r) ∧ OwnAt w' w.heap.size pa pc ca cc ra rc r.att
theorem cells_u {w : World} {a : Option Addr} {zs : List Nat} (h : CRd w a zs) : Cells w a zs.length 1 (ucells zs) := by
  refine ⟨by rw [ucells_length]; omega, fun e => ?_, fun ad e j u hu => ?_, ucells_one _⟩
  · cases zs with
    | nil => rfl
    | cons z r => obtain ⟨b, off, e2, _⟩ := h (by simp); rw [e] at e2; cases e2
  · have hj : j < zs.length := by have := (List.getElem?_eq_some_iff.1 hu).1; rwa [ucells_length] at this
    obtain ⟨b, off, e2, hc⟩ := h (by omega)
    rw [e] at e2
    cases e2
    rw [Addr.add_mid, hc j _ (List.getElem?_eq_getElem hj), ← hu]
    simp [ucells, hj]
section
attribute [local go_sem ↓] keptR_load keptR_store keptR_box keptR_alloc keptR_build
set_option maxHeartbeats 1600000 in
theorem own_any (pa : Option Addr) (pc : Nat) (ca : Option Addr) (cc : Nat) (ra : Option Addr) (rc : Nat) (r : Rt) (w : World) (hl : sizeA r.att ≤ 100000) (h : AtRd w pa ca ra r.att) :
    Calls Tryd.prog 55 #[rtV pa pc ca cc ra rc r] w fun e w' => OwnIs w w' e r ∧ Below w.heap.size w w' := by
  have HR := hide h
  have HL : Hid (r.att.path.length + sumP r.att.path ≤ 100000 ∧ r.att.comms.length ≤ 100000 ∧ r.att.raws.length + sumR r.att.raws ≤ 100000) := by show _ ∧ _; unfold sizeA at hl; omega
  clear h hl
  rw [rtV_eq]
  obtain ⟨C, hC⟩ : ∃ C, C = rtC pa pc ca cc ra rc r := ⟨_, rfl⟩
  rw [← hC]
  have HC := hide hC
  clear hC
  go_enter Tryd.func55, Tryd.ntmps55
  go_wp2_with fail
  refine kept_box_intro _ _ _ (by rfl) (run_boxR C w) ?_
  go_wp2_with fail
  refine kept_alloc_intro _ (run_allocR _) ?_
  obtain ⟨W0, hW0⟩ : ∃ W0, W0 = (w.alloc (.cells C 36)).alloc (.cells zR 36) := ⟨_, rfl⟩
  have hs0 : W0.heap.size = w.heap.size + 2 := by rw [hW0]; simp
  have HB0 : Hid (Below w.heap.size w W0) := by show Below _ _ _; rw [hW0]; exact ((Below.refl _ _).alloc (Nat.le_refl _) _).alloc (by simp) _
  have HX0 : Hid (Bl W0 w.heap.size C) := by show Bl _ _ _; rw [hW0]; exact (Bl.new w C).below ((Below.refl _ _).alloc (Nat.le_refl _) _)
  have HY0 : Hid (Bl W0 (w.heap.size + 1) zR) := by show Bl _ _ _; rw [hW0]; have := Bl.new (w.alloc (.cells C 36)) zR; simpa using this
  rw [← hW0]
  simp only [World.size_alloc]
  clear hW0
  have c4 : W0.cell? ⟨w.heap.size, 4, none⟩ = some (.slice pa r.att.path.length pc) := HX0.out.cell 4 (by rw [HC.out]; rfl)
  have z0 := HX0.out.lt
  go_wp2_with fail
  refine (own_path pa pc r.att.path W0 HL.out.1 (HR.out.path.below HB0.out)).mono ?_
  rintro e w1 ⟨pa9, pc9, rfl, ho1, hb1⟩
  have HO1 := hide ho1
  have HB1 : Hid (Below w.heap.size w w1) := HB0.out.trans (hb1.mono (by omega))
  have HX1 := hide (HX0.out.below hb1)
  have HY1 := hide (HY0.out.below hb1)
  have hs1 : w.heap.size + 2 ≤ w1.heap.size := by have := hb1.size; omega
  clear c4 z0 HX0 HY0 HB0 ho1 hb1
  have c4 : w1.cell? ⟨w.heap.size, 4, none⟩ = some (.slice pa r.att.path.length pc) := HX1.out.cell 4 (by rw [HC.out]; rfl)
  have c8 : w1.cell? ⟨w.heap.size, 8, none⟩ = some (.slice ca r.att.comms.length cc) := HX1.out.cell 8 (by rw [HC.out]; rfl)
  have f4 := HX1.out.frozen 4
  have z1 : w.heap.size < w1.heap.size := by omega
  go_wp2_with fail
  have HX2 := hide (HX1.out.set 4 (.slice pa9 r.att.path.length pc9))
  have HY2 := hide (HY1.out.other 4 (.slice pa9 r.att.path.length pc9) (Y := w.heap.size) (by omega))
  have HB2 : Hid (Below w.heap.size w (w1.setCell ⟨w.heap.size, 4, none⟩ (.slice pa9 r.att.path.length pc9))) := HB1.out.setCell (Nat.le_refl _) _
  have HO2 : Hid (OwnPath (w1.setCell ⟨w.heap.size, 4, none⟩ (.slice pa9 r.att.path.length pc9)) (w.heap.size + 2) (.slice pa9 r.att.path.length pc9) r.att.path) := by
    have h9 := HO1.out
    rw [hs0] at h9
    exact h9.keeps ((Keeps.refl (fun k => k = w.heap.size) w1).setCell _ _ _ (.inl rfl)) (fun b h1 h2 => by omega)
  have hs2 : w.heap.size + 2 ≤ (w1.setCell ⟨w.heap.size, 4, none⟩ (.slice pa9 r.att.path.length pc9)).heap.size := by simpa using hs1
  generalize w1.setCell ⟨w.heap.size, 4, none⟩ (.slice pa9 r.att.path.length pc9) = w2 at *
  clear c4 c8 f4 z1 HX1 HY1 HB1 HO1 hs1 hs0
  refine (clone_u ca _ cc _ w2 HL.out.2.1 (cells_u (HR.out.comms.below HB2.out))).mono ?_
  rintro e w3 ⟨ca9, cc9, rfl, ho3, hb3⟩
  have HQ3 : Hid (w3.ownsRow (w.heap.size + 2) 22 1 (.slice ca9 r.att.comms.length cc9) r.att.comms.length (ucells r.att.comms)) := own_base ho3 hs2
  have HO3 := hide (HO2.out.later hb3)
  have HB3 : Hid (Below w.heap.size w w3) := HB2.out.trans (hb3.mono (by omega))
  have HX3 := hide (HX2.out.below hb3)
  have HY3 := hide (HY2.out.below hb3)
  have hs3 : w.heap.size + 2 ≤ w3.heap.size := by have := hb3.size; omega
  clear ho3 hb3 HO2 HB2 HX2 HY2 hs2
  have c8 : w3.cell? ⟨w.heap.size, 8, none⟩ = some (.slice ca r.att.comms.length cc) := HX3.out.cell 8 (by rw [HC.out]; rfl)
  have c9 : w3.cell? ⟨w.heap.size, 9, none⟩ = some (.slice ra r.att.raws.length rc) := HX3.out.cell 9 (by rw [HC.out]; rfl)
  have f8 := HX3.out.frozen 8
  have z3 : w.heap.size < w3.heap.size := by omega
  go_wp2_with fail
  have HX4 := hide (HX3.out.set 8 (.slice ca9 r.att.comms.length cc9))
  have HY4 := hide (HY3.out.other 8 (.slice ca9 r.att.comms.length cc9) (Y := w.heap.size) (by omega))
  have HB4 : Hid (Below w.heap.size w (w3.setCell ⟨w.heap.size, 8, none⟩ (.slice ca9 r.att.comms.length cc9))) := HB3.out.setCell (Nat.le_refl _) _
  have hkk := (Keeps.refl (fun k => k = w.heap.size) w3).setCell w.heap.size 8 (.slice ca9 r.att.comms.length cc9) (.inl rfl)
  have HO4 := hide (HO3.out.keeps hkk (fun b h1 h2 => by omega))
  have HQ4 := hide (own_keeps HQ3.out hkk (fun b h1 h2 => by omega))
  have hs4 : w.heap.size + 2 ≤ (w3.setCell ⟨w.heap.size, 8, none⟩ (.slice ca9 r.att.comms.length cc9)).heap.size := by simpa using hs3
  clear hkk
  generalize w3.setCell ⟨w.heap.size, 8, none⟩ (.slice ca9 r.att.comms.length cc9) = w4 at *
  clear c8 c9 f8 z3 HX3 HY3 HB3 HO3 HQ3 hs3
  refine (own_raws ra rc r.att.raws w4 HL.out.2.2 (HR.out.raws.below HB4.out)).mono ?_
  rintro e w5 ⟨ra9, rc9, rfl, ho5, hb5⟩
  have HU5 : Hid (OwnRaws w5 (w.heap.size + 2) (.slice ra9 r.att.raws.length rc9) r.att.raws) := ho5.base hs4
  have HO5 := hide (HO4.out.later hb5)
  have HQ5 := hide (own_later HQ4.out hb5)
  have HB5 : Hid (Below w.heap.size w w5) := HB4.out.trans (hb5.mono (by omega))
  have HX5 := hide (HX4.out.below hb5)
  have HY5 := hide (HY4.out.below hb5)
  have hs5 : w.heap.size + 2 ≤ w5.heap.size := by have := hb5.size; omega
  clear ho5 hb5 HO4 HQ4 HB4 HX4 HY4 hs4
  have c9 : w5.cell? ⟨w.heap.size, 9, none⟩ = some (.slice ra r.att.raws.length rc) := HX5.out.cell 9 (by rw [HC.out]; rfl)
  have f9 := HX5.out.frozen 9
  have z5 : w.heap.size < w5.heap.size := by omega
  go_wp2_with fail
  have HX6 : Hid (Bl (w5.setCell ⟨w.heap.size, 9, none⟩ (.slice ra9 r.att.raws.length rc9)) w.heap.size (rtC pa9 pc9 ca9 cc9 ra9 rc9 r)) := by
    have h9 := HX5.out.set 9 (.slice ra9 r.att.raws.length rc9)
    rw [HC.out] at h9
    exact h9
  have HY6 := hide (HY5.out.other 9 (.slice ra9 r.att.raws.length rc9) (Y := w.heap.size) (by omega))
  have HB6 : Hid (Below w.heap.size w (w5.setCell ⟨w.heap.size, 9, none⟩ (.slice ra9 r.att.raws.length rc9))) := HB5.out.setCell (Nat.le_refl _) _
  have hkk := (Keeps.refl (fun k => k = w.heap.size) w5).setCell w.heap.size 9 (.slice ra9 r.att.raws.length rc9) (.inl rfl)
  have HO6 := hide (HO5.out.keeps hkk (fun b h1 h2 => by omega))
  have HQ6 := hide (own_keeps HQ5.out hkk (fun b h1 h2 => by omega))
  have HU6 := hide (HU5.out.keeps hkk (fun b h1 h2 => by omega))
  clear hkk
  generalize w5.setCell ⟨w.heap.size, 9, none⟩ (.slice ra9 r.att.raws.length rc9) = w6 at *
  clear c9 f9 z5 HX5 HY5 HB5 HO5 HQ5 HU5 hs5
  refine kept_load_intro _ _ _ (by rfl) (run_loadR HX6.out (RC.rt _ _ _ _ _ _ _)) ?_
  go_wp2_with fail
  refine kept_store_intro _ _ _ _ (by rfl) (by rfl) (run_storeR HY6.out rfl (RC.rt _ _ _ _ _ _ _)) ?_
  have HY7 : Hid (Bl (w6.setCells (w.heap.size + 1) 0 (rtC pa9 pc9 ca9 cc9 ra9 rc9 r).toList) (w.heap.size + 1) (rtC pa9 pc9 ca9 cc9 ra9 rc9 r)) := HY6.out.put rfl
  have hkk := (Keeps.refl (fun k => k = w.heap.size + 1) w6).setCells (w.heap.size + 1) 0 (rtC pa9 pc9 ca9 cc9 ra9 rc9 r).toList (.inl rfl)
  have HA7 : Hid (OwnAt (w6.setCells (w.heap.size + 1) 0 (rtC pa9 pc9 ca9 cc9 ra9 rc9 r).toList) w.heap.size pa9 pc9 ca9 cc9 ra9 rc9 r.att) := (OwnAt.keeps ⟨HO6.out, HQ6.out, HU6.out⟩ hkk (fun b h1 h2 => by omega)).base (by omega)
  have HB7 := hide (below_puts HB6.out (X := w.heap.size + 1) (by omega) (rtC pa9 pc9 ca9 cc9 ra9 rc9 r).toList)
  clear hkk HX6 HY6 HB6 HO6 HQ6 HU6
  generalize w6.setCells (w.heap.size + 1) 0 (rtC pa9 pc9 ca9 cc9 ra9 rc9 r).toList = w7 at *
  go_wp2_with fail
  refine bodyPost_ret (v := .agg (rtC pa9 pc9 ca9 cc9 ra9 rc9 r)) (res_one Tryd.results55 _ w7 (w.heap.size + 1) _ rfl HY7.out (RC.rt _ _ _ _ _ _ _)) rfl ⟨⟨pa9, pc9, ca9, cc9, ra9, rc9, rfl, HA7.out⟩, HB7.out⟩
end
end Go.Proofs.YthigjonagbfbbaaDoor
