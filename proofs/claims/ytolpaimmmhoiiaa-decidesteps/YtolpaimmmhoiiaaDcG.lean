/- Law 15's bad and infos. -/
import Derived.Test.YtolpaimmmhoiiaaDcF
namespace Go.Proofs.Ytolpaimmmhoiiaa
open Go.RowKit
set_option maxRecDepth 100000

/-- Too great for a float to hold it? -/
def badB (x : Int) : Bool := decide (9007199254740992 < x) || decide (x < -9007199254740992)
theorem bad_any (x : Int) (w : World) : Calls Try.prog 14 #[.int .i64 x] w fun e w' => e = .returned (.bool (badB x)) ∧ w' = w := by
  by_cases h1 : 9007199254740992 < x
  · have HE : Hid (true = badB x) := by show _ = _; unfold badB; simp [h1]
    go_enter Try.func14, Try.ntmps14
    go_wp2
    go_ret
    exact ⟨ret_bool HE.out, rfl⟩
  · have f1 : decide (9007199254740992 < x) = false := decide_eq_false h1
    by_cases h2 : x < -9007199254740992
    · have HE : Hid (true = badB x) := by show _ = _; unfold badB; simp [h2]
      clear h1
      go_enter Try.func14, Try.ntmps14
      go_wp2
      go_ret
      exact ⟨ret_bool HE.out, rfl⟩
    · have f2 : decide (x < -9007199254740992) = false := decide_eq_false h2
      have HE : Hid (false = badB x) := by show _ = _; unfold badB; simp [f1, f2]
      clear h1 h2
      go_enter Try.func14, Try.ntmps14
      go_wp2
      go_ret
      exact ⟨ret_bool HE.out, rfl⟩
theorem Try.infoInfo : (Try.prog.info? 62).map (fun i => (i.zero, i.size, i.bytes)) = some (some (.agg #[.int .i64 0, .int .i64 0, .int .u32 0]), 3, 24) := by kernel_rfl
theorem elemInfo : Elem 29 62 3 24 := by
  obtain ⟨i, h1, h2, h3, h4⟩ := info_parts Try.infoInfo
  exact ⟨Try.underlying29, ⟨i, _, h1, h2, h3, h4, rfl⟩, by omega, by omega⟩
/-- The cells of infos. -/
def fcells : List Inf → List Value
  | [] => []
  | x :: l => .int .i64 x.peer :: .int .i64 x.num :: .int .u32 (x.id : Int) :: fcells l
theorem fcells_app : ∀ (l r : List Inf), fcells (l ++ r) = fcells l ++ fcells r
  | [], _ => rfl
  | x :: l, r => by simp [fcells, fcells_app l r]
theorem fcells_one : ∀ (l : List Inf), ∀ u ∈ fcells l, u.oneCell' = true
  | [], _, h => by simp [fcells] at h
  | x :: l, u, h => by
    simp only [fcells, List.mem_cons] at h
    rcases h with rfl | rfl | rfl | h
    · rfl
    · rfl
    · rfl
    · exact fcells_one l u h
theorem fcells_length : ∀ (l : List Inf), (fcells l).length = l.length * 3
  | [] => rfl
  | x :: l => by simp [fcells, fcells_length l]; omega
theorem fcells_get : ∀ (l : List Inf) (i : Nat) (x : Inf), l[i]? = some x → (fcells l)[i * 3]? = some (.int .i64 x.peer) ∧ (fcells l)[i * 3 + 1]? = some (.int .i64 x.num) ∧ (fcells l)[i * 3 + 2]? = some (.int .u32 (x.id : Int))
  | [], _, _, h => by simp at h
  | y :: l, 0, x, h => by
    simp at h
    subst h
    exact ⟨rfl, rfl, rfl⟩
  | y :: l, i + 1, x, h => by
    have h1 := fcells_get l i x (by simpa using h)
    have e : (i + 1) * 3 = i * 3 + 3 := by omega
    rw [e]
    exact h1
def OwnF (w : World) (B : Nat) (v : Value) (l : List Inf) : Prop := w.ownsRow B 62 3 v l.length (fcells l)
theorem OwnF.nil (w : World) (B : Nat) : OwnF w B (.slice none 0 0) [] := own_nil _ _ _ _
theorem OwnF.snoc {w : World} {B : Nat} {v : Value} {l : List Inf} (h : OwnF w B v l) (x : Inf) (hB : B ≤ w.heap.size) (hl : l.length ≤ 100000) :
    ∃ v' w', (Builtin.append_ #[29, 29] 29 #[v, .slice (some ⟨w.heap.size, 0, none⟩) 1 1]).run Try.prog (w.alloc (.cells #[.int .i64 x.peer, .int .i64 x.num, .int .u32 (x.id : Int)] 62)) = .ok v' w' ∧ OwnF w' B v' (l ++ [x]) ∧ Below B w w' := by
  obtain ⟨v', w', hr, h2, h3, _, _⟩ := app_more elemInfo (w := w.alloc (.cells #[.int .i64 x.peer, .int .i64 x.num, .int .u32 (x.id : Int)] 62)) (World.ownsRow.alloc h _) (by simp; omega) ⟨w.heap.size, 0, none⟩ 1 1 (fcells [x]) rfl (fun i u hu => by
    rw [Addr.add_mid, Nat.zero_add, World.cell?_alloc_mark]
    simpa [fcells] using hu) (fcells_one _) (by omega)
  refine ⟨v', w', hr, ?_, ((Below.refl _ _).alloc hB _).trans h3⟩
  unfold OwnF
  rw [fcells_app]
  simpa using h2
theorem OwnF.rd {w : World} {B : Nat} {v : Value} {l : List Inf} (h : OwnF w B v l) : ∃ a c, v = .slice a l.length c ∧ InfsRd w a l := by
  have hh : w.ownsRow B 62 3 v l.length (fcells l) := h
  rcases h.2 with ⟨rfl, h0⟩ | ⟨g, cap, cur, rfl, _⟩
  · exact ⟨none, 0, by rw [h0], fun hp => absurd hp (by omega)⟩
  · refine ⟨_, _, rfl, fun _ => ⟨g, 0, rfl, fun i x hi => ?_⟩⟩
    have hil := (List.getElem?_eq_some_iff.1 hi).1
    obtain ⟨h1, h2, h3⟩ := fcells_get l i x hi
    rw [Nat.zero_add]
    refine ⟨?_, ?_, ?_⟩
    · rw [hh.cellAt (i * 3) (by omega)]; exact h1
    · rw [hh.cellAt (i * 3 + 1) (by omega)]; exact h2
    · rw [hh.cellAt (i * 3 + 2) (by omega)]; exact h3
theorem OwnF.later {w w' : World} {B : Nat} {v : Value} {l : List Inf} (h : OwnF w B v l) (hb : Below w.heap.size w w') : OwnF w' B v l := own_later h hb
section
variable {P : Program} {a : Act} {w w' : World} {K : Act → World → Prop} {Q : Exit → Act → World → Prop} {dst : Option Tmp} {ty : TypeId} {pos : String} {after : Array Edge} {gd : Option (Nat × Bool)}
theorem opwp_appF {t : TypeId} (x y : Operand) (p q v : Value) (hx : a.eval x = p) (hy : a.eval y = q) (hr : (Builtin.append_ #[t, t] ty #[p, q]).run P w = .ok v w') (h : K (a.put dst v) w') :
    Oper.wp P { dst := dst, op := .call { callee := .builtin .append, args := #[x, y], argTypes := #[t, t] }, type := ty, pos := pos, after := after, guard := gd } a w K Q := by
  unfold Oper.wp execOp
  simp only [resolve, invoke, builtin, Sem.run_bind, Sem.run_pure, Result.andThen_ok, List.map_toArray, List.map_cons, List.map_nil, hx, hy, hr]
  exact h
end
set_option maxHeartbeats 3200000 in
theorem infos_any (a : Option Addr) (c : Nat) (l : List Inf) (w : World) (hl : l.length ≤ 100000) (h : InfsRd w a l) :
    Calls Try.prog 12 #[.slice a l.length c] w fun e w' => (∃ v, e = .returned v ∧ OwnF w' w.heap.size v l) ∧ Below w.heap.size w w' := by
  have HR := hide h
  clear h
  obtain ⟨n, hn⟩ : ∃ n, n = l.length := ⟨_, rfl⟩
  rw [← hn] at hl ⊢
  have HN := hide hn
  clear hn
  go_enter Try.func12, Try.ntmps12
  go_wp2
  go_loopw [3, 4] (fun v i wq => ∃ k : Nat, k ≤ n ∧ i = .int .i64 k ∧ Hid (OwnF wq w.heap.size v (l.take k)) ∧ Hid (Below w.heap.size w wq)) (fun _ i _ => n - (intOf i).toNat)
  case atStart => exact ⟨0, Nat.zero_le _, rfl, OwnF.nil _ _, Below.refl _ _⟩
  case round =>
    obtain ⟨k, hk, rfl, HO, HB⟩ := hrel
    by_cases hlt : k < n
    · have hkl : k < l.length := by rw [← HN.out]; exact hlt
      obtain ⟨g, o, rfl, hc⟩ := HR.out (by omega)
      obtain ⟨c0, c1, c2⟩ := hc k _ (List.getElem?_eq_getElem hkl)
      have ht : Hid (l.take (k + 1) = l.take k ++ [l[k]]) := by show _ = _; rw [List.take_succ_eq_append_getElem hkl]
      generalize l[k] = y at *
      have zg := World.block_lt_of_cell? w _ c0
      simp only at zg
      have hk0 : (0 : Int) ≤ (k : Int) := Int.natCast_nonneg _
      have hkn : (k : Int) < (n : Int) := by omega
      clear hc
      have hS : ∀ W, Below w.heap.size w W → W.cell? ⟨g, o + k * 3, none⟩ = some (.int .i64 y.peer) ∧ W.cell? ⟨g, o + k * 3 + 1, none⟩ = some (.int .i64 y.num) ∧ W.cell? ⟨g, o + k * 3 + 2, none⟩ = some (.int .u32 (y.id : Int)) := fun W hW =>
        ⟨by rw [hW.cell (p := ⟨g, o + k * 3, none⟩) zg]; exact c0, by rw [hW.cell (p := ⟨g, o + k * 3 + 1, none⟩) zg]; exact c1, by rw [hW.cell (p := ⟨g, o + k * 3 + 2, none⟩) zg]; exact c2⟩
      have HSS := hide hS
      clear hS c0 c1 c2 zg
      obtain ⟨v3, w3, hr3, ho3, hb3⟩ := OwnF.snoc (HO.out.later (Below.refl _ _).drew) y HB.out.drew.size (by have := List.length_take_le k l; omega)
      have HR3 := hide hr3
      have HO3 : Hid (OwnF w3 w.heap.size v3 (l.take (k + 1))) := by show OwnF _ _ _ _; rw [ht.out]; exact ho3
      have HB3 : Hid (Below w.heap.size w w3) := HB.out.drew.trans hb3
      clear hr3 ho3 hb3 ht
      go_wp2_with fail
      refine region_mix (fun W => Below w.heap.size w W) (fun q => q == 17 || q == 18) (by kernel_rfl) (by kernel_rfl) (by kernel_rfl) HB.out.drew ?_
      iterate 16 refine mix_q (by rfl) (by rfl) (fun w9 h9 => (by obtain ⟨s0, s1, s2⟩ := HSS.out w9 h9; clear h9; go_simp; first | done | rfl)) (by go_simp; first | done | rfl) ?_
      refine mix_q (v := .agg #[.int .i64 y.peer, .int .i64 y.num, .int .u32 (y.id : Int)]) (by rfl) (by rfl) (fun w9 h9 => (by clear h9; go_simp; first | done | rfl)) (by go_simp; first | done | rfl) ?_
      refine mix_l (by rfl) (by rfl) (by rfl) ?_
      go_simp
      refine ⟨HB.out.drew.alloc HB.out.size _, ?_⟩
      refine mix_l (by rfl) (by rfl) (by rfl) ?_
      refine opwp_appF _ _ u3 (.slice (some ⟨wr.heap.size, 0, none⟩) 1 1) v3 (w' := w3) (by rfl) (by rfl) HR3.out ?_
      refine ⟨HB3.out, ?_⟩
      refine mix_q (by rfl) (by rfl) (fun w9 h9 => (by clear h9; go_simp; first | done | rfl)) (by go_simp; first | done | rfl) ?_
      refine ⟨fun _ h => (by cases h), ?_⟩
      go_wp2
      exact ⟨⟨k + 1, by omega, by go_num, HO3, HB3⟩, by simp [intOf]; omega⟩
    · have hkn : k = n := by omega
      subst hkn
      have ht : l.take k = l := by rw [HN.out]; exact List.take_length
      rw [ht] at HO
      clear ht
      go_wp2
      refine bodyPost_ret (v := u3) (by simp [results, Try.results12, go_sem]) rfl ⟨⟨u3, rfl, HO.out⟩, HB.out⟩
end Go.Proofs.Ytolpaimmmhoiiaa
