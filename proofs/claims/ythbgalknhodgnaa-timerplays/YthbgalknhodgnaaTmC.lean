/- Which is due first: the timers' first and Due. -/
import Derived.Test.YthbgalknhodgnaaTmB
import Derived.Test.YthbgalknhodgnaaItM
namespace Go.Proofs.Ythbgalknhodgnaa
open Go.RowKit Go.ChangeMaps Go.MapKept
set_option maxRecDepth 100000

theorem bl_total : ∀ x y : List UInt8, Op.bytesLess x y = false → Op.bytesLess y x = false → x = y
  | [], [], _, _ => rfl
  | [], b :: y, h, _ => by simp [Op.bytesLess] at h
  | a :: x, [], _, h => by simp [Op.bytesLess] at h
  | a :: x, b :: y, h, g => by
    simp only [Op.bytesLess, Bool.or_eq_false_iff, Bool.and_eq_false_iff, decide_eq_false_iff_not, beq_eq_false_iff_ne] at h g
    have e : a = b := UInt8.le_antisymm (UInt8.not_lt.1 g.1) (UInt8.not_lt.1 h.1)
    subst e
    rw [bl_total x y (h.2.resolve_left (fun h => h rfl)) (g.2.resolve_left (fun h => h rfl))]
theorem bl_trans : ∀ x y z : List UInt8, Op.bytesLess x y = true → Op.bytesLess y z = true → Op.bytesLess x z = true
  | _, [], _, h, _ => by simp [Op.bytesLess] at h
  | _, b :: y, [], _, h => by simp [Op.bytesLess] at h
  | [], b :: y, c :: z, _, _ => by simp [Op.bytesLess]
  | a :: x, b :: y, c :: z, h, g => by
    simp only [Op.bytesLess, Bool.or_eq_true, Bool.and_eq_true, decide_eq_true_eq, beq_iff_eq] at h g ⊢
    rcases h with h | ⟨rfl, h⟩
    · rcases g with g | ⟨rfl, g⟩
      · exact .inl (UInt8.lt_trans h g)
      · exact .inl h
    · rcases g with g | ⟨rfl, g⟩
      · exact .inl g
      · exact .inr ⟨rfl, bl_trans x y z h g⟩
theorem bl_irrefl : ∀ x : List UInt8, Op.bytesLess x x = false
  | [] => rfl
  | a :: x => by simp [Op.bytesLess, bl_irrefl x]
theorem name_total {x y : ByteArray} (h : Op.bytesLess x.toList y.toList = false) (g : Op.bytesLess y.toList x.toList = false) : x = y := by
  have e := bl_total _ _ h g
  rw [Lib.toList_data, Lib.toList_data] at e
  obtain ⟨⟨x⟩⟩ := x
  obtain ⟨⟨y⟩⟩ := y
  simp at e
  rw [e]
/-- Is x due ahead of y? -/
def lessN (x y : Nm) : Bool := decide (x.2 < y.2) || (decide (x.2 = y.2) && Op.bytesLess x.1.toList y.1.toList)
theorem lessN_irrefl (x : Nm) : lessN x x = false := by simp [lessN, bl_irrefl]
theorem lessN_trans {x y z : Nm} (h : lessN x y = true) (g : lessN y z = true) : lessN x z = true := by
  simp only [lessN, Bool.or_eq_true, Bool.and_eq_true, decide_eq_true_eq] at h g ⊢
  rcases h with h | ⟨h, h2⟩
  · rcases g with g | ⟨g, _⟩ <;> exact .inl (by omega)
  · rcases g with g | ⟨g, g2⟩
    · exact .inl (by omega)
    · exact .inr ⟨by omega, bl_trans _ _ _ h2 g2⟩
theorem lessN_total {x y : Nm} (h : lessN x y = false) (g : lessN y x = false) : x = y := by
  simp only [lessN, Bool.or_eq_false_iff, Bool.and_eq_false_iff, decide_eq_false_iff_not] at h g
  have e : x.2 = y.2 := by omega
  have e2 : x.1 = y.1 := name_total (h.2.resolve_left (fun k => k e)) (g.2.resolve_left (fun k => k e.symm))
  exact Prod.ext e2 e
/-- x is due ahead of all others. -/
def FirstN (l : List Nm) (x : Nm) : Prop := x ∈ l ∧ ∀ y ∈ l, lessN y x = false
theorem FirstN.perm {l l' : List Nm} {x : Nm} (h : FirstN l x) (hp : l.Perm l') : FirstN l' x := ⟨hp.mem_iff.1 h.1, fun y hy => h.2 y (hp.mem_iff.2 hy)⟩
theorem FirstN.one {l : List Nm} {x y : Nm} (h : FirstN l x) (g : FirstN l y) : x = y := lessN_total (g.2 x h.1) (h.2 y g.1)
/-- What has been found so far. -/
def Best (z : Bool) (n : ByteArray) (m : Int) (l : List Nm) : Prop := (z = true ∧ FirstN l (n, m)) ∨ (z = false ∧ n = ⟨#[]⟩ ∧ m = 0 ∧ l = [])
theorem Best.takes {z : Bool} {n : ByteArray} {m : Int} {l l' : List Nm} (h : Best z n m l) (x : Nm) (hp : l'.Perm (x :: l)) (hx : z = false ∨ lessN x (n, m) = true) : Best true x.1 x.2 l' := by
  refine .inl ⟨rfl, FirstN.perm ⟨List.mem_cons_self, fun y hy => ?_⟩ hp.symm⟩
  rcases List.mem_cons.1 hy with rfl | hy
  · exact lessN_irrefl _
  rcases h with ⟨rfl, h1, h2⟩ | ⟨rfl, _, _, rfl⟩
  · have hx := hx.resolve_left (by simp)
    cases e : lessN y x with
    | false => rfl
    | true => have := h2 y hy; rw [lessN_trans e hx] at this; cases this
  · cases hy
theorem Best.leaves {n : ByteArray} {m : Int} {l l' : List Nm} (h : Best true n m l) (x : Nm) (hp : l'.Perm (x :: l)) (hx : lessN x (n, m) = false) : Best true n m l' := by
  rcases h with ⟨_, h1, h2⟩ | ⟨h, _⟩
  · refine .inl ⟨rfl, FirstN.perm ⟨List.mem_cons_of_mem _ h1, fun y hy => ?_⟩ hp.symm⟩
    rcases List.mem_cons.1 hy with rfl | hy
    · exact hx
    · exact h2 y hy
  · cases h
theorem Best.perm {z : Bool} {n : ByteArray} {m : Int} {l l' : List Nm} (h : Best z n m l) (hp : l.Perm l') : Best z n m l' := by
  rcases h with ⟨h1, h2⟩ | ⟨h1, h2, h3, rfl⟩
  · exact .inl ⟨h1, h2.perm hp⟩
  · exact .inr ⟨h1, h2, h3, hp.symm.eq_nil⟩
set_option maxHeartbeats 800000 in
theorem first_nil (w : World) : Calls Try.prog 13 #[.pointer none] w fun e w' => e = .returned (.tuple #[.string ⟨#[]⟩, .int .i64 0, .bool false]) ∧ w' = w := by
  go_enter Try.func13, Try.ntmps13
  go_wp2
  exact bodyPost_ret (v := .tuple #[.string ⟨#[]⟩, .int .i64 0, .bool false]) (by simp [results, Try.results13, go_sem]) rfl ⟨rfl, rfl⟩
set_option maxHeartbeats 3200000 in
theorem first_any (b : Nat) (l : List Nm) (w : World) (h : Tmr w b l) : Calls Try.prog 13 #[tmV b] w fun e w' => (∃ n m z, e = .returned (.tuple #[.string n, .int .i64 m, .bool z]) ∧ Best z n m l) ∧ Below w.heap.size w w' := by
  have c0 := h.cell
  have z0 := h.lt
  obtain ⟨es, clock, h1, h2, h3, h4, h5⟩ := h
  have hrg := run_range_map (P := Try.prog) w 42 _ _ b es clock Try.underlying42 h1
  have HS := hide h2
  have HE := hide h4
  have HP := hide h5
  have HI0 : Hid (It (w.alloc (.mapIter (some b) clock #[] clock)) b w.heap.size es clock #[]) := ⟨⟨clock, (heap_alloc w _).1, Nat.le_refl _⟩, by rw [(heap_alloc w _).2 b (by omega)]; exact h1⟩
  clear h2 h4 h5 h1 h3
  go_enter Try.func13, Try.ntmps13
  go_wp2
  go_loopw [2, 3, 4] (fun vn vm vz wq => ∃ (n : ByteArray) (m : Int) (z : Bool) (seen : Array Nat), vn = .string n ∧ vm = .int .i64 m ∧ vz = .bool z ∧ Hid (It wq b w.heap.size es clock seen) ∧ Hid (Below w.heap.size w wq ∧ w.heap.size + 1 ≤ wq.heap.size) ∧ Hid (Best z n m ((told es.toList seen).map entN))) (fun _ _ _ wq => wq.rangeLeft b w.heap.size)
  case atStart => exact ⟨⟨#[]⟩, 0, false, #[], rfl, rfl, rfl, HI0, ⟨(Below.refl _ _).alloc (Nat.le_refl _) _, by simp⟩, .inr ⟨rfl, rfl, rfl, by rw [told_none]; rfl⟩⟩
  case round =>
    obtain ⟨n, m, z, seen, rfl, rfl, rfl, HI, HB, HA⟩ := hrel
    rcases HI.out.next HS.out (by omega) with ⟨hn0, hnx⟩ | ⟨e, w1, he, hsn, hnx, hen, hit, hkp, hlt⟩
    · have HT := hide (told_all hn0)
      clear hn0
      go_wp2
      refine bodyPost_ret (v := .tuple #[.string n, .int .i64 m, .bool z]) (by simp [results, Try.results13, go_sem]) rfl ⟨⟨n, m, z, rfl, ?_⟩, HB.out.1⟩
      have := HA.out
      rw [HT.out] at this
      exact this.perm HP.out
    · obtain ⟨hk0, hv0⟩ := HE.out e he
      rw [hk0, hv0] at hnx hen
      have hb1 : Below w.heap.size w w1 := HB.out.1.trans (hkp.below _ HB.out.1.size (fun x hx => by omega))
      have HI1 := hide hit
      have HB1 : Hid (Below w.heap.size w w1 ∧ w.heap.size + 1 ≤ w1.heap.size) := ⟨hb1, Nat.le_trans HB.out.2 hkp.size⟩
      have HM : Hid (w1.rangeLeft b w.heap.size < wr.rangeLeft b w.heap.size) := by show _ < _; rw [hit.left, HI.out.left]; exact hlt
      have HPM : Hid (((told es.toList (seen.push e.born)).map entN).Perm (entN e :: (told es.toList seen).map entN)) := (told_more ((stamped_iff es clock).1 HS.out).2.1 he hsn).map entN
      clear hk0 hv0 hb1 hit hkp hlt hsn he HE HI HB
      generalize seen.push e.born = sn at *
      generalize entN e = x at *
      obtain ⟨xn, xm⟩ := x
      cases z with
      | false =>
        have HA1 : Hid (Best true xn xm ((told es.toList sn).map entN)) := HA.out.takes (xn, xm) HPM.out (.inl rfl)
        go_wp2
        exact ⟨⟨xn, xm, true, sn, rfl, rfl, rfl, HI1, HB1, HA1⟩, HM.out⟩
      | true =>
        by_cases q1 : xm < m
        · have HA1 : Hid (Best true xn xm ((told es.toList sn).map entN)) := HA.out.takes (xn, xm) HPM.out (.inr (by simp [lessN, q1]))
          have d1 : decide (xm < m) = true := decide_eq_true q1
          clear q1
          go_wp2
          exact ⟨⟨xn, xm, true, sn, rfl, rfl, rfl, HI1, HB1, HA1⟩, HM.out⟩
        · have d1 : decide (xm < m) = false := decide_eq_false q1
          by_cases q2 : xm = m
          · cases q3 : Op.bytesLess xn.toList n.toList with
            | true =>
              have HA1 : Hid (Best true xn xm ((told es.toList sn).map entN)) := HA.out.takes (xn, xm) HPM.out (.inr (by simp [lessN, q2, q3]))
              clear q1
              subst q2
              go_wp2
              exact ⟨⟨xn, xm, true, sn, rfl, rfl, rfl, HI1, HB1, HA1⟩, HM.out⟩
            | false =>
              have HA1 : Hid (Best true n m ((told es.toList sn).map entN)) := HA.out.leaves (xn, xm) HPM.out (by simp [lessN, q2, q3])
              clear q1
              subst q2
              go_wp2
              exact ⟨⟨n, xm, true, sn, rfl, rfl, rfl, HI1, HB1, HA1⟩, HM.out⟩
          · have HA1 : Hid (Best true n m ((told es.toList sn).map entN)) := HA.out.leaves (xn, xm) HPM.out (by simp [lessN, q1, q2])
            have d2 : (decide (xm = m)) = false := decide_eq_false q2
            clear q1
            go_wp2
            exact ⟨⟨n, m, true, sn, rfl, rfl, rfl, HI1, HB1, HA1⟩, HM.out⟩
/-- What Due answers. -/
def DueIs (l : List Nm) (now : Int) (n : ByteArray) (m : Int) (z : Bool) (l' : List Nm) : Prop :=
  (z = true ∧ FirstN l (n, m) ∧ m ≤ now ∧ l' = delN n l) ∨ (z = false ∧ n = ⟨#[]⟩ ∧ m = 0 ∧ (∀ x ∈ l, now < x.2) ∧ l' = l)
set_option maxHeartbeats 800000 in
theorem due_nil (now : Int) (w : World) : Calls Try.prog 11 #[.pointer none, .int .i64 now] w fun e w' => e = .returned (.tuple #[.string ⟨#[]⟩, .int .i64 0, .bool false]) ∧ w' = w := by
  go_enter Try.func11, Try.ntmps11
  go_wp2_with fail
  refine (first_nil w).mono ?_
  rintro e w1 ⟨rfl, rfl⟩
  go_wp2
  exact bodyPost_ret (v := .tuple #[.string ⟨#[]⟩, .int .i64 0, .bool false]) (by simp [results, Try.results11, go_sem]) rfl ⟨rfl, rfl⟩
set_option maxHeartbeats 1600000 in
theorem due_any (b : Nat) (l : List Nm) (now : Int) (w : World) (h : Tmr w b l) :
    Calls Try.prog 11 #[tmV b, .int .i64 now] w fun e w' => ∃ n m z l', e = .returned (.tuple #[.string n, .int .i64 m, .bool z]) ∧ DueIs l now n m z l' ∧ Tmr w' b l' ∧ Keeps (fun x => x = b) w w' := by
  have HT := hide h
  clear h
  go_enter Try.func11, Try.ntmps11
  go_wp2_with fail
  refine (first_any b l w HT.out).mono ?_
  rintro e w1 ⟨⟨n, m, z, rfl, hB⟩, hb⟩
  have HB := hide hB
  have HT1 := hide (HT.out.later hb)
  have HK1 : Hid (Keeps (fun x => x = b) w w1) := Keeps.of_below hb _
  clear hB hb
  cases z with
  | false =>
    have HE : Hid (l = []) := by
      rcases HB.out with ⟨h, _⟩ | ⟨_, _, _, h⟩
      · cases h
      · exact h
    go_wp2
    refine bodyPost_ret (v := .tuple #[.string ⟨#[]⟩, .int .i64 0, .bool false]) (by simp [results, Try.results11, go_sem]) rfl ⟨_, _, _, l, rfl, .inr ⟨rfl, rfl, rfl, fun x hx => ?_, rfl⟩, HT1.out, HK1.out⟩
    rw [HE.out] at hx
    cases hx
  | true =>
    have HF : Hid (FirstN l (n, m)) := by
      rcases HB.out with ⟨_, h⟩ | ⟨h, _⟩
      · exact h
      · cases h
    by_cases q : now < m
    · have HE : Hid (∀ x ∈ l, now < x.2) := fun x hx => by
        have h9 := HF.out.2 x hx
        simp only [lessN, Bool.or_eq_false_iff, decide_eq_false_iff_not] at h9
        have := h9.1
        omega
      go_wp2
      exact bodyPost_ret (v := .tuple #[.string ⟨#[]⟩, .int .i64 0, .bool false]) (by simp [results, Try.results11, go_sem]) rfl ⟨_, _, _, l, rfl, .inr ⟨rfl, rfl, rfl, HE.out, rfl⟩, HT1.out, HK1.out⟩
    · have HQ : Hid (m ≤ now) := by show m ≤ now; omega
      have d1 : decide (now < m) = false := decide_eq_false q
      have c0 := HT1.out.cell
      obtain ⟨w3, hrun, t3, k3⟩ := HT1.out.del n 0
      have HT3 := hide t3
      have HK3 : Hid (Keeps (fun x => x = b) w w3) := HK1.out.trans k3 (fun x _ h => h)
      clear t3 k3 q
      go_wp2
      exact bodyPost_ret (v := .tuple #[.string n, .int .i64 m, .bool true]) (by simp [results, Try.results11, go_sem]) rfl ⟨_, _, _, _, rfl, .inl ⟨rfl, HF.out, HQ.out, rfl⟩, HT3.out, HK3.out⟩
end Go.Proofs.Ythbgalknhodgnaa
