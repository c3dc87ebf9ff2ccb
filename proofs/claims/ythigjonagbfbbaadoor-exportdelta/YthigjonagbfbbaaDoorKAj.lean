/- A path of the call's own. -/
import Derived.Test.YthigjonagbfbbaaDoorKAb
import Derived.Test.YthigjonagbfbbaaDoorKAe
import Derived.Test.YthigjonagbfbbaaDoorKAi
import Derived.Test.YthigjonagbfbbaaDoorKAg
namespace Go.Proofs.YthigjonagbfbbaaDoor
open Go.RowKit
set_option maxRecDepth 100000

theorem Tryd.infoSeg : (Tryd.prog.info? 69).map (fun i => (i.zero, i.size, i.bytes)) = some (some (.agg #[.bool false, .slice none 0 0]), 2, 32) := by kernel_rfl
theorem elemSeg : Elem 30 69 2 32 := by
  obtain ⟨i, h1, h2, h3, h4⟩ := info_parts Tryd.infoSeg
  exact ⟨Tryd.underlying30, ⟨i, _, h1, h2, h3, h4, rfl⟩, by omega, by omega⟩
/-- v is a row of the segments ss, all of it new since B. -/
def OwnPath (w : World) (B : Nat) (v : Value) (ss : List (Bool × List Int)) : Prop :=
  ∃ cs, w.ownsRow B 69 2 v ss.length cs ∧ ∀ i s, ss[i]? = some s → cs[i * 2]? = some (.bool s.1) ∧ ∃ u, cs[i * 2 + 1]? = some u ∧ w.ownsRow B 3 1 u s.2.length (icells s.2)
theorem OwnPath.later {w w' : World} {B : Nat} {v : Value} {ss : List (Bool × List Int)} (h : OwnPath w B v ss) (hb : Below w.heap.size w w') : OwnPath w' B v ss := by
  obtain ⟨cs, ho, hc⟩ := h
  refine ⟨cs, own_later ho hb, fun i s hi => ?_⟩
  obtain ⟨h1, u, h2, h3⟩ := hc i s hi
  exact ⟨h1, u, h2, own_later h3 hb⟩
theorem OwnPath.nil (w : World) (B : Nat) : OwnPath w B (.slice none 0 0) [] := ⟨[], own_nil _ _ _ _, fun i s h => by simp at h⟩
theorem own_ird {w : World} {B : Nat} {u : Value} {zs : List Int} (h : w.ownsRow B 3 1 u zs.length (icells zs)) : ∃ a c, u = .slice a zs.length c ∧ IRd w a zs := by
  have hh := h
  rcases h.2 with ⟨rfl, h0⟩ | ⟨g, cap, cur, rfl, _⟩
  · exact ⟨none, 0, by rw [h0], fun hp => absurd hp (by omega)⟩
  · refine ⟨_, _, rfl, fun _ => ⟨g, 0, rfl, fun j z hj => ?_⟩⟩
    have hjl := (List.getElem?_eq_some_iff.1 hj).1
    rw [Nat.zero_add, hh.cellAt j (by omega)]
    exact icells_get zs j z hj
theorem OwnPath.rd {w : World} {B : Nat} {v : Value} {ss : List (Bool × List Int)} (h : OwnPath w B v ss) (hl : ss.length ≤ 1000000) (hs : ∀ s ∈ ss, s.2.length ≤ 1000000) : ∃ a c, v = .slice a ss.length c ∧ PthRd w a ss := by
  obtain ⟨cs, ho, hc⟩ := h
  have hh := ho
  rcases ho.2 with ⟨rfl, h0⟩ | ⟨g, cap, cur, rfl, _⟩
  · exact ⟨none, 0, by rw [h0], ⟨fun hp => absurd hp (by omega), by unfold maxLen; omega, fun s hm => by have := hs s hm; unfold maxLen; omega⟩⟩
  · refine ⟨_, _, rfl, ⟨fun _ => ⟨g, 0, rfl, fun i s hi => ?_⟩, by unfold maxLen; omega, fun s hm => by have := hs s hm; unfold maxLen; omega⟩⟩
    have hil := (List.getElem?_eq_some_iff.1 hi).1
    obtain ⟨h1, u, h2, h3⟩ := hc i s hi
    obtain ⟨a', c', rfl, h4⟩ := own_ird h3
    rw [Nat.zero_add, hh.cellAt (i * 2) (by omega), hh.cellAt (i * 2 + 1) (by omega)]
    exact ⟨h1, a', c', h2, h4⟩
/-- One segment more. -/
theorem OwnPath.snoc {w : World} {B : Nat} {v u : Value} {ss : List (Bool × List Int)} {b : Bool} {zs : List Int} (h : OwnPath w B v ss) (hu : w.ownsRow B 3 1 u zs.length (icells zs)) (hone : u.oneCell' = true) (hB : B ≤ w.heap.size) (hl : ss.length ≤ 100000) (H : Nat) (hH : w.heap.size = H) :
    ∃ v' w', (Builtin.append_ #[30, 30] 30 #[v, .slice (some ⟨H, 0, none⟩) 1 1]).run Tryd.prog (w.alloc (.cells #[.bool b, u] 69)) = .ok v' w' ∧ OwnPath w' B v' (ss ++ [(b, zs)]) ∧ Below B w w' := by
  subst hH
  obtain ⟨cs, ho, hc⟩ := h
  have hb1 : Below B w (w.alloc (.cells #[.bool b, u] 69)) := (Below.refl _ _).alloc hB _
  have hbw : Below w.heap.size w (w.alloc (.cells #[.bool b, u] 69)) := (Below.refl _ _).alloc (Nat.le_refl _) _
  obtain ⟨v', w', hr, h2, h3, h4, _⟩ := app_more elemSeg (w := w.alloc (.cells #[.bool b, u] 69)) (ho.alloc _) (by simp; omega) ⟨w.heap.size, 0, none⟩ 1 1 [.bool b, u] rfl (fun j x hx => by
    rw [Addr.add_mid, Nat.zero_add, World.cell?_alloc_mark]
    simpa using hx) (by intro x hx; simp at hx; rcases hx with rfl | rfl; rfl; exact hone) (by omega)
  have hap : ∀ (x : Value) (ys : List Int), w.ownsRow B 3 1 x ys.length (icells ys) → w'.ownsRow B 3 1 x ys.length (icells ys) := fun x ys hx =>
    own_grown (own_later hx hbw) h4 (fun k hk => own_apart hx ho (by decide) k hk)
  refine ⟨v', w', hr, ⟨_, by rw [List.length_append]; exact h2, fun i s hi => ?_⟩, hb1.trans h3⟩
  have hcl : cs.length = ss.length * 2 := ho.1
  by_cases hlt : i < ss.length
  · rw [List.getElem?_append_left hlt] at hi
    obtain ⟨g1, x, g2, g3⟩ := hc i s hi
    exact ⟨by rw [List.getElem?_append_left (by omega)]; exact g1, x, by rw [List.getElem?_append_left (by omega)]; exact g2, hap x _ g3⟩
  · rw [List.getElem?_append_right (by omega)] at hi
    have hi0 : i - ss.length = 0 := by
      have := (List.getElem?_eq_some_iff.1 hi).1
      simpa using this
    rw [hi0] at hi
    simp at hi
    subst hi
    have e1 : i = ss.length := by omega
    subst e1
    refine ⟨by rw [List.getElem?_append_right (by omega), hcl, Nat.sub_self]; rfl, u, by rw [List.getElem?_append_right (by omega), show ss.length * 2 + 1 - cs.length = 1 from by omega]; rfl, hap u zs hu⟩
end Go.Proofs.YthigjonagbfbbaaDoor
/- Raws of the call's own. -/
namespace Go.Proofs.YthigjonagbfbbaaDoor
open Go.RowKit
set_option maxRecDepth 100000

theorem Tryd.infoRaw : (Tryd.prog.info? 73).map (fun i => (i.zero, i.size, i.bytes)) = some (some (.agg #[.int .i64 0, .int .i64 0, .slice none 0 0]), 3, 40) := by kernel_rfl
theorem Tryd.infoU32 : (Tryd.prog.info? 22).map (fun i => (i.zero, i.size, i.bytes)) = some (some (.int .u32 0), 1, 4) := by kernel_rfl
theorem elemRaw : Elem 32 73 3 40 := by
  obtain ⟨i, h1, h2, h3, h4⟩ := info_parts Tryd.infoRaw
  exact ⟨Tryd.underlying32, ⟨i, _, h1, h2, h3, h4, rfl⟩, by omega, by omega⟩
theorem elemU32 : Elem 31 22 1 4 := by
  obtain ⟨i, h1, h2, h3, h4⟩ := info_parts Tryd.infoU32
  exact ⟨Tryd.underlying31, ⟨i, _, h1, h2, h3, h4, rfl⟩, by omega, by omega⟩
/-- v is a row of the Raws rs, all of it new since B. -/
def OwnRaws (w : World) (B : Nat) (v : Value) (rs : List (Int × Int × List Nat)) : Prop :=
  ∃ cs, w.ownsRow B 73 3 v rs.length cs ∧ ∀ i r, rs[i]? = some r → cs[i * 3]? = some (.int .i64 r.1) ∧ cs[i * 3 + 1]? = some (.int .i64 r.2.1) ∧ ∃ u, cs[i * 3 + 2]? = some u ∧ w.ownsRow B 5 1 u r.2.2.length (bcells r.2.2)
theorem OwnRaws.later {w w' : World} {B : Nat} {v : Value} {rs : List (Int × Int × List Nat)} (h : OwnRaws w B v rs) (hb : Below w.heap.size w w') : OwnRaws w' B v rs := by
  obtain ⟨cs, ho, hc⟩ := h
  refine ⟨cs, own_later ho hb, fun i r hi => ?_⟩
  obtain ⟨h1, h2, u, h3, h4⟩ := hc i r hi
  exact ⟨h1, h2, u, h3, own_later h4 hb⟩
theorem OwnRaws.nil (w : World) (B : Nat) : OwnRaws w B (.slice none 0 0) [] := ⟨[], own_nil _ _ _ _, fun i s h => by simp at h⟩
theorem OwnRaws.base {w : World} {B B' : Nat} {v : Value} {rs : List (Int × Int × List Nat)} (h : OwnRaws w B v rs) (hB : B' ≤ B) : OwnRaws w B' v rs := by
  obtain ⟨cs, ho, hc⟩ := h
  refine ⟨cs, own_base ho hB, fun i r hi => ?_⟩
  obtain ⟨h1, h2, u, h3, h4⟩ := hc i r hi
  exact ⟨h1, h2, u, h3, own_base h4 hB⟩
theorem OwnRaws.rd {w : World} {B : Nat} {v : Value} {rs : List (Int × Int × List Nat)} (h : OwnRaws w B v rs) (hs : ∀ r ∈ rs, r.2.2.length ≤ 500000 ∧ ∀ x ∈ r.2.2, x < 256) : ∃ a c, v = .slice a rs.length c ∧ RawRd w a rs := by
  obtain ⟨cs, ho, hc⟩ := h
  have hh := ho
  rcases ho.2 with ⟨rfl, h0⟩ | ⟨g, cap, cur, rfl, _⟩
  · exact ⟨none, 0, by rw [h0], fun hp => absurd hp (by omega)⟩
  · refine ⟨_, _, rfl, fun _ => ⟨g, 0, rfl, fun i r hi => ?_⟩⟩
    have hil := (List.getElem?_eq_some_iff.1 hi).1
    obtain ⟨h1, h2, u, h3, h4⟩ := hc i r hi
    obtain ⟨q1, q2⟩ := hs r (List.mem_of_getElem? hi)
    obtain ⟨a', c', rfl, h5, h6⟩ := own_brd h4 q1 q2
    rw [Nat.zero_add, hh.cellAt (i * 3) (by omega), hh.cellAt (i * 3 + 1) (by omega), hh.cellAt (i * 3 + 2) (by omega)]
    exact ⟨h1, h2, a', c', h3, h5, h6⟩
/-- One Raw more. -/
theorem OwnRaws.snoc {w : World} {B : Nat} {v u : Value} {rs : List (Int × Int × List Nat)} {f t : Int} {ds : List Nat} (h : OwnRaws w B v rs) (hu : w.ownsRow B 5 1 u ds.length (bcells ds)) (hone : u.oneCell' = true) (hB : B ≤ w.heap.size) (hl : rs.length ≤ 100000) (H : Nat) (hH : w.heap.size = H) :
    ∃ v' w', (Builtin.append_ #[32, 32] 32 #[v, .slice (some ⟨H, 0, none⟩) 1 1]).run Tryd.prog (w.alloc (.cells #[.int .i64 f, .int .i64 t, u] 73)) = .ok v' w' ∧ OwnRaws w' B v' (rs ++ [(f, t, ds)]) ∧ Below B w w' := by
  subst hH
  obtain ⟨cs, ho, hc⟩ := h
  have hb1 : Below B w (w.alloc (.cells #[.int .i64 f, .int .i64 t, u] 73)) := (Below.refl _ _).alloc hB _
  have hbw : Below w.heap.size w (w.alloc (.cells #[.int .i64 f, .int .i64 t, u] 73)) := (Below.refl _ _).alloc (Nat.le_refl _) _
  obtain ⟨v', w', hr, h2, h3, h4, _⟩ := app_more elemRaw (w := w.alloc (.cells #[.int .i64 f, .int .i64 t, u] 73)) (ho.alloc _) (by simp; omega) ⟨w.heap.size, 0, none⟩ 1 1 [.int .i64 f, .int .i64 t, u] rfl (fun j x hx => by
    rw [Addr.add_mid, Nat.zero_add, World.cell?_alloc_mark]
    simpa using hx) (by intro x hx; simp at hx; rcases hx with rfl | rfl | rfl; rfl; rfl; exact hone) (by omega)
  have hap : ∀ (x : Value) (ys : List Nat), w.ownsRow B 5 1 x ys.length (bcells ys) → w'.ownsRow B 5 1 x ys.length (bcells ys) := fun x ys hx =>
    own_grown (own_later hx hbw) h4 (fun k hk => own_apart hx ho (by decide) k hk)
  refine ⟨v', w', hr, ⟨_, by rw [List.length_append]; exact h2, fun i s hi => ?_⟩, hb1.trans h3⟩
  have hcl : cs.length = rs.length * 3 := ho.1
  by_cases hlt : i < rs.length
  · rw [List.getElem?_append_left hlt] at hi
    obtain ⟨g1, g2, x, g3, g4⟩ := hc i s hi
    exact ⟨by rw [List.getElem?_append_left (by omega)]; exact g1, by rw [List.getElem?_append_left (by omega)]; exact g2, x, by rw [List.getElem?_append_left (by omega)]; exact g3, hap x _ g4⟩
  · rw [List.getElem?_append_right (by omega)] at hi
    have hi0 : i - rs.length = 0 := by
      have := (List.getElem?_eq_some_iff.1 hi).1
      simpa using this
    rw [hi0] at hi
    simp at hi
    subst hi
    have e1 : i = rs.length := by omega
    subst e1
    refine ⟨by rw [List.getElem?_append_right (by omega), hcl, Nat.sub_self]; rfl, by rw [List.getElem?_append_right (by omega), show rs.length * 3 + 1 - cs.length = 1 from by omega]; rfl, u, by rw [List.getElem?_append_right (by omega), show rs.length * 3 + 2 - cs.length = 2 from by omega]; rfl, hap u ds hu⟩
/-- The cells of numbers of 32 bits. -/
def ucells (l : List Nat) : List Value := l.map fun (x : Nat) => Value.int .u32 (x : Int)
theorem ucells_app (l r : List Nat) : ucells (l ++ r) = ucells l ++ ucells r := by simp [ucells]
theorem ucells_length (l : List Nat) : (ucells l).length = l.length := by simp [ucells]
theorem ucells_one (l : List Nat) : ∀ u ∈ ucells l, u.oneCell' = true := by
  intro u hu
  obtain ⟨i, _, rfl⟩ := List.mem_map.1 hu
  rfl
theorem own_crd {w : World} {B : Nat} {v : Value} {cs : List Nat} (h : w.ownsRow B 22 1 v cs.length (ucells cs)) : ∃ a c, v = .slice a cs.length c ∧ CRd w a cs := by
  have hh := h
  rcases h.2 with ⟨rfl, h0⟩ | ⟨g, cap, cur, rfl, _⟩
  · exact ⟨none, 0, by rw [h0], fun hp => absurd hp (by omega)⟩
  · refine ⟨_, _, rfl, fun _ => ⟨g, 0, rfl, fun j z hj => ?_⟩⟩
    have hjl := (List.getElem?_eq_some_iff.1 hj).1
    rw [Nat.zero_add, hh.cellAt j (by omega)]
    simp [ucells, hj]
end Go.Proofs.YthigjonagbfbbaaDoor
