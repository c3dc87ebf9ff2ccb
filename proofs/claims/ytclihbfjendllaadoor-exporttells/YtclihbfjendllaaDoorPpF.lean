/- The document's Prepend once more: its answer is read too where blocks F are turned that the path doesn't lie in. -/
import Derived.Test.YtclihbfjendllaaDoorKAl
import Derived.Test.YtclihbfjendllaaDoorKAz
namespace Go.Proofs.YtclihbfjendllaaDoor
open Go.RowKit
set_option maxRecDepth 100000

/-- The blocks F were made after wB, ahead of w0. -/
def Ford (F : Nat → Prop) (wB w0 : World) : Prop := Below wB.heap.size wB w0 ∧ ∀ k, F k → wB.heap.size ≤ k ∧ k < w0.heap.size
theorem Ford.drew {F : Nat → Prop} {wB w0 : World} (h : Ford F wB w0) : Ford F wB w0.drew := ⟨h.1.drew, h.2⟩
theorem Ford.still {F : Nat → Prop} {wB w0 w' W : World} (h : Ford F wB w0) (hb : Below w0.heap.size w0 w') (hK : Keeps F w' W) : Below wB.heap.size wB W := by
  have h1 := h.1.trans (hb.mono h.1.size)
  have h2 := hK.below wB.heap.size h1.size (fun k hk => (h.2 k hk).1)
  exact h1.trans h2
theorem own_standsF {F : Nat → Prop} {wB w0 w' W : World} {e size n : Nat} {v : Value} {xs : List Value} (h : Ford F wB w0) (ho : w'.ownsRow w0.heap.size e size v n xs) (hK : Keeps F w' W) : W.ownsRow w0.heap.size e size v n xs :=
  own_stands ho fun k hk => by
    have h1 := own_block ho k hk
    exact hK.block k h1.2 fun hf => by have := (h.2 k hf).2; omega
theorem prep_rdF {F : Nat → Prop} {wB w0 w : World} {v u : Value} {zs : List Int} {a : Option Addr} {c : Nat} {ss : List (Bool × List Int)} (hF : Ford F wB w0) (ho : w.ownsRow w0.heap.size 69 2 v 1 [.bool false, u]) (hu : w.ownsRow w0.heap.size 3 1 u zs.length (icells zs)) (hp : PthRd wB a ss) (hb : Below w0.heap.size w0 w) (hl : ss.length ≤ 100000) (hz : zs.length ≤ 100000) :
    ∃ a9 c9 w', (Builtin.append_ #[30, 30] 30 #[v, .slice a ss.length c]).run Tryd.prog w = .ok (.slice a9 (ss.length + 1) c9) w' ∧ (∀ W, Keeps F w' W → PthRd W a9 ((false, zs) :: ss)) ∧ Below w0.heap.size w0 w' := by
  have key : ∀ (v' : Value) (w' : World) (news : List Value), w'.ownsRow w0.heap.size 69 2 v' (1 + ss.length) ([.bool false, u] ++ news) → Below w0.heap.size w0 w' → w'.ownsRow w0.heap.size 3 1 u zs.length (icells zs) → (∀ b off, a = some ⟨b, off, none⟩ → ∀ j, j < ss.length * 2 → news[j]? = w0.cell? ⟨b, off + j, none⟩) → ∃ a9 c9, v' = .slice a9 (ss.length + 1) c9 ∧ (∀ W, Keeps F w' W → PthRd W a9 ((false, zs) :: ss)) := by
    intro v' w' news hv hb' hu' hn
    obtain ⟨g, c9, rfl, _, _⟩ := hv.form (by omega)
    refine ⟨_, c9, by rw [Nat.add_comm], fun W hK => ?_⟩
    have hbW := hF.still hb' hK
    replace hv := own_standsF hF hv hK
    obtain ⟨a2, c2, rfl, hird⟩ := own_ird (own_standsF hF hu' hK)
    refine ⟨fun _ => ⟨g, 0, rfl, fun i s hi => ?_⟩, by unfold maxLen; simp only [List.length_cons]; omega, fun s hs => ?_⟩
    · cases i with
      | zero =>
        simp at hi
        subst hi
        rw [Nat.zero_add, hv.cellAt (0 * 2) (by omega), hv.cellAt (0 * 2 + 1) (by omega)]
        exact ⟨rfl, a2, c2, rfl, hird⟩
      | succ i =>
        have hi' : ss[i]? = some s := by simpa using hi
        have hil := (List.getElem?_eq_some_iff.1 hi').1
        obtain ⟨b, off, rfl, hc⟩ := hp.cells (by omega)
        obtain ⟨h1, a', c', h2, h3⟩ := hc i s hi'
        rw [Nat.zero_add, hv.cellAt ((i + 1) * 2) (by omega), hv.cellAt ((i + 1) * 2 + 1) (by omega)]
        refine ⟨?_, a', c', ?_, h3.below hbW⟩
        · rw [List.getElem?_append_right (by simp; omega), show (i + 1) * 2 - [Value.bool false, Value.slice a2 zs.length c2].length = i * 2 from by simp; omega, hn b off rfl _ (by omega), hF.1.cell (World.block_lt_of_cell? wB _ h1)]
          exact h1
        · rw [List.getElem?_append_right (by simp; omega), show (i + 1) * 2 + 1 - [Value.bool false, Value.slice a2 zs.length c2].length = i * 2 + 1 from by simp; omega, hn b off rfl _ (by omega)]
          exact (hF.1.cell (p := ⟨b, off + i * 2 + 1, none⟩) (World.block_lt_of_cell? wB _ h2)).trans h2
    · rcases List.mem_cons.1 hs with rfl | hs
      · unfold maxLen; simp only; omega
      · exact hp.smalls s hs
  have hsz := hb.size
  cases a with
  | none =>
    have h0 : ss = [] := by
      cases ss with
      | nil => rfl
      | cons s r => obtain ⟨b, off, e, _⟩ := hp.cells (by simp); cases e
    subst h0
    obtain ⟨g, c9, rfl, hcap⟩ : ∃ g c9, v = .slice (some ⟨g, 0, none⟩) 1 c9 ∧ 1 ≤ c9 := by
      rcases ho.2 with ⟨_, h1⟩ | ⟨g, cap, cur, rfl, _, _, h1, _⟩
      · exact absurd h1 (by omega)
      · exact ⟨g, cap, rfl, h1⟩
    have hr := append_none elemSeg w ⟨g, 0, none⟩ 1 c9 c (by omega)
    obtain ⟨a9, c8, e, hrd⟩ := key _ w [] (by simpa using ho) hb hu (fun b off e => by cases e)
    cases e
    exact ⟨_, _, w, hr, hrd, hb⟩
  | some ad =>
    by_cases h0 : ss = []
    · subst h0
      obtain ⟨v', w', hr, h2, h3, h4, _⟩ := app_more elemSeg ho (by omega) ad 0 c [] rfl (fun j x hx => by simp at hx) (by simp) (by omega)
      obtain ⟨a9, c8, rfl, hrd⟩ := key v' w' [] h2 (hb.trans h3) (own_grown hu h4 (fun k hk => own_apart hu ho (by decide) k hk)) (fun b off e j hj => by simp at hj)
      exact ⟨_, _, w', hr, hrd, hb.trans h3⟩
    · have hpos : 0 < ss.length := by cases ss with | nil => exact absurd rfl h0 | cons s r => simp
      obtain ⟨b, off, e, hc⟩ := (hp.below hF.1).cells hpos
      cases e
      obtain ⟨xs, hx1, hx2, hx3⟩ := pth_cells hc
      obtain ⟨v', w', hr, h2, h3, h4, _⟩ := app_more elemSeg ho (by omega) ⟨b, off, none⟩ ss.length c xs hx1 (fun j x hx => by
        rw [Addr.add_mid]
        have h9 := (hx2 j x hx).1
        rw [hb.cell (p := ⟨b, off + j, none⟩) (World.block_lt_of_cell? w0 _ h9)]
        exact h9) (fun x hx => by
        obtain ⟨j, hj⟩ := List.getElem?_of_mem hx
        exact (hx2 j x hj).2) (by omega)
      obtain ⟨a9, c8, rfl, hrd⟩ := key v' w' xs h2 (hb.trans h3) (own_grown hu h4 (fun k hk => own_apart hu ho (by decide) k hk)) (fun b' off' e j hj => by cases e; exact hx3 j hj)
      exact ⟨_, _, w', hr, hrd, hb.trans h3⟩
/-- What Prepend answers. -/
def PrepResF (F : Nat → Prop) (w w' : World) (ss : List (Bool × List Int)) (e : Ending) : Prop := (∃ a9 c9, e = .returned (.slice a9 ss.length c9) ∧ ∀ W, Keeps F w' W → PthRd W a9 ss) ∧ Below w.heap.size w w'
theorem prep_oneF {F : Nat → Prop} {wB : World} (w : World) (hF : Ford F wB w) (z : Int) (a : Option Addr) (c : Nat) (ss : List (Bool × List Int)) (hl : ss.length ≤ 100000) (h : PthRd wB a ss) :
    ∃ a9 c9 w', (Builtin.append_ #[30, 30] 30 #[.slice (some ⟨w.heap.size + 1, 0, none⟩) 1 1, .slice a ss.length c]).run Tryd.prog ((w.alloc (.cells #[.int .i64 z] 3)).alloc (.cells #[.bool false, .slice (some ⟨w.heap.size, 0, none⟩) 1 1] 69)) = .ok (.slice a9 (ss.length + 1) c9) w' ∧ (∀ W, Keeps F w' W → PthRd W a9 ((false, [z]) :: ss)) ∧ Below w.heap.size w w' := by
  have h1 := own_made w w.heap.size 3 1 #[.int .i64 z] 1 (Nat.le_refl _) rfl (by omega)
  have hs : (w.alloc (.cells #[.int .i64 z] 3)).heap.size = w.heap.size + 1 := by simp
  have h2 := own_made (w.alloc (.cells #[.int .i64 z] 3)) w.heap.size 69 2 #[.bool false, .slice (some ⟨w.heap.size, 0, none⟩) 1 1] 1 (by omega) rfl (by omega)
  rw [hs] at h2
  exact prep_rdF (zs := [z]) hF h2 (h1.alloc _) h (((Below.refl _ _).alloc (Nat.le_refl _) _).alloc (by omega) _) hl (by simp)
theorem prep_moreF {F : Nat → Prop} {wB : World} (w w1 : World) (hF : Ford F wB w) (u : Value) (zs : List Int) (a : Option Addr) (c : Nat) (ss : List (Bool × List Int)) (hl : ss.length ≤ 100000) (hz : zs.length ≤ 100000) (h : PthRd wB a ss) (hu : w1.ownsRow w.heap.size 3 1 u zs.length (icells zs)) (hb : Below w.heap.size w w1) :
    ∃ a9 c9 w', (Builtin.append_ #[30, 30] 30 #[.slice (some ⟨w1.heap.size, 0, none⟩) 1 1, .slice a ss.length c]).run Tryd.prog (w1.alloc (.cells #[.bool false, u] 69)) = .ok (.slice a9 (ss.length + 1) c9) w' ∧ (∀ W, Keeps F w' W → PthRd W a9 ((false, zs) :: ss)) ∧ Below w.heap.size w w' := by
  have h2 := own_made w1 w.heap.size 69 2 #[.bool false, u] 1 hb.size rfl (by omega)
  exact prep_rdF hF h2 (hu.alloc _) h (hb.alloc hb.size _) hl hz
section
attribute [local go_sem ↓] Go.wp_at_zero Go.wp_at_succ kept_appendI kept_appendS
set_option maxHeartbeats 1600000 in
theorem rprep_setF {F : Nat → Prop} {wB : World} (b off c : Nat) (ss : List (Bool × List Int)) (z : Int) (w : World) (hF : Ford F wB w) (n0 c0 : Nat) (a0 : Option Addr) (k : Bool) (hl : ss.length ≤ 100000) (hpos : 0 < ss.length) (h : PthRd wB (some ⟨b, off, none⟩) ss) (h0 : w.cell? ⟨b, off, none⟩ = some (.bool k)) (h1 : w.cell? ⟨b, off + 1, none⟩ = some (.slice a0 n0 c0)) (hk : k = true ∨ 254 < n0) :
    Calls Tryd.prog 30 #[.slice (some ⟨b, off, none⟩) ss.length c, .int .i64 z] w fun e w' => PrepResF F w w' ((false, [z]) :: ss) e := by
  obtain ⟨a9, c9, w9, hr, hrd, hb⟩ := prep_oneF w hF z (some ⟨b, off, none⟩) c ss hl h
  have HR := hide hr
  have HD := hide hrd
  have HB := hide hb
  clear hr hrd hb h
  have HL := hide (show ((false, [z]) :: ss).length = ss.length + 1 from rfl)
  generalize ss.length = n at *
  have jn : (0 : Int) < (n : Int) := by omega
  go_enter Tryd.func30, Tryd.ntmps30
  cases k with
  | true =>
    clear hk
    go_wp2
    refine kept_appendS_intro _ _ _ _ (.slice a9 (n + 1) c9) (w' := w9) (by rfl) (by rfl) (by exact HR.out) ?_
    go_wp2
    go_ret
    exact ⟨⟨a9, c9, by rw [HL.out]; rfl, HD.out⟩, HB.out⟩
  | false =>
    have hk2 : decide ((n0 : Int) ≤ 254) = false := decide_eq_false (by rcases hk with hk | hk; cases hk; omega)
    clear hk
    go_wp2
    refine kept_appendS_intro _ _ _ _ (.slice a9 (n + 1) c9) (w' := w9) (by rfl) (by rfl) (by exact HR.out) ?_
    go_wp2
    go_ret
    exact ⟨⟨a9, c9, by rw [HL.out]; rfl, HD.out⟩, HB.out⟩
set_option maxHeartbeats 800000 in
theorem rprep_nilF {F : Nat → Prop} {wB : World} (a : Option Addr) (c : Nat) (z : Int) (w : World) (hF : Ford F wB w) (h : PthRd wB a []) :
    Calls Tryd.prog 30 #[.slice a 0 c, .int .i64 z] w fun e w' => PrepResF F w w' [(false, [z])] e := by
  obtain ⟨a9, c9, w9, hr, hrd, hb⟩ := prep_oneF w hF z a c [] (by simp) h
  have HR := hide hr
  have HD := hide hrd
  have HB := hide hb
  clear hr hrd hb h
  go_enter Tryd.func30, Tryd.ntmps30
  go_wp2
  refine kept_appendS_intro _ _ _ _ (.slice a9 1 c9) (w' := w9) (by rfl) (by rfl) (by exact HR.out) ?_
  go_wp2
  go_ret
  exact ⟨⟨a9, c9, rfl, HD.out⟩, HB.out⟩
set_option maxHeartbeats 3200000 in
theorem rprep_seqF {F : Nat → Prop} {wB : World} (b off c : Nat) (zs : List Int) (r : List (Bool × List Int)) (z : Int) (w : World) (hF : Ford F wB w) (c0 : Nat) (a0 : Option Addr) (hl : r.length ≤ 100000) (hz : zs.length ≤ 254) (hrc : r.length + 1 ≤ c) (hc1 : ¬ c = 1) (h : PthRd wB (some ⟨b, off + 2, none⟩) r) (h0 : w.cell? ⟨b, off, none⟩ = some (.bool false)) (h1 : w.cell? ⟨b, off + 1, none⟩ = some (.slice a0 zs.length c0)) (hi : IRd w a0 zs) :
    Calls Tryd.prog 30 #[.slice (some ⟨b, off, none⟩) (r.length + 1) c, .int .i64 z] w fun e w' => PrepResF F w w' ((false, z :: zs) :: r) e := by
  have hbd : Below w.heap.size w w.drew := (Below.refl _ _).drew
  obtain ⟨g1, c1, w1, hr1, ho1, hb1⟩ := prep_ints w.drew z zs a0 c0 (by omega) (hi.below hbd)
  obtain ⟨a9, c9, w9, hr, hrd, hb⟩ := prep_moreF w.drew w1 hF.drew _ (z :: zs) (some ⟨b, off + 2, none⟩) (c - 1) r hl (by simp; omega) h ho1 hb1
  have hblk := World.block_lt_of_cell? w _ h0
  have hk1 : w1.cell? ⟨b, off + 1, none⟩ = some (.slice a0 zs.length c0) := by
    rw [hb1.cell (p := ⟨b, off + 1, none⟩) (by simpa using hblk)]
    simpa using h1
  have HR1 := hide hr1
  have HR := hide hr
  have HD := hide hrd
  have HB := hide (hbd.trans hb)
  clear hr hrd hb h hi hr1 ho1 hb1 hbd
  have HL := hide (show ((false, z :: zs) :: r).length = r.length + 1 from rfl)
  generalize r.length = n at *
  generalize zs.length = n0 at *
  have jn : (0 : Int) < (n : Int) + 1 := by omega
  have j2 : (1 : Int) ≤ (n : Int) + 1 := by omega
  have j3 : (n : Int) + 1 ≤ (c : Int) := by omega
  have j4 : (n0 : Int) ≤ 254 := by omega
  go_enter Tryd.func30, Tryd.ntmps30
  go_wp2_with fail
  go_region_with (first
    | (refine kept_appendI_intro _ _ _ _ (.slice (some ⟨g1, 0, none⟩) (n0 + 1) c1) (w' := w1) (by rfl) (by rfl) (by exact HR1.out) ?_)
    | (refine kept_appendS_intro _ _ _ _ (.slice a9 (n + 1) c9) (w' := w9) (by rfl) (by rfl) (by exact HR.out) ?_))
  all_goals go_wp2
  all_goals go_ret
  all_goals exact ⟨⟨a9, c9, by rw [HL.out]; rfl, HD.out⟩, HB.out⟩
set_option maxHeartbeats 3200000 in
theorem rprep_seq1F {F : Nat → Prop} {wB : World} (b off : Nat) (zs : List Int) (z : Int) (w : World) (hF : Ford F wB w) (c0 : Nat) (a0 : Option Addr) (hz : zs.length ≤ 254) (h0 : w.cell? ⟨b, off, none⟩ = some (.bool false)) (h1 : w.cell? ⟨b, off + 1, none⟩ = some (.slice a0 zs.length c0)) (hi : IRd w a0 zs) :
    Calls Tryd.prog 30 #[.slice (some ⟨b, off, none⟩) 1 1, .int .i64 z] w fun e w' => PrepResF F w w' [(false, z :: zs)] e := by
  have hbd : Below w.heap.size w w.drew := (Below.refl _ _).drew
  obtain ⟨g1, c1, w1, hr1, ho1, hb1⟩ := prep_ints w.drew z zs a0 c0 (by omega) (hi.below hbd)
  obtain ⟨a9, c9, w9, hr, hrd, hb⟩ := prep_moreF w.drew w1 hF.drew _ (z :: zs) (some ⟨b, off, none⟩) 0 [] (by simp) (by simp; omega) ⟨fun h9 => absurd h9 (by simp), by simp, by simp⟩ ho1 hb1
  have hblk := World.block_lt_of_cell? w _ h0
  have hk1 : w1.cell? ⟨b, off + 1, none⟩ = some (.slice a0 zs.length c0) := by
    rw [hb1.cell (p := ⟨b, off + 1, none⟩) (by simpa using hblk)]
    simpa using h1
  have HR1 := hide hr1
  have HR := hide hr
  have HD := hide hrd
  have HB := hide (hbd.trans hb)
  clear hr hrd hb hi hr1 ho1 hb1 hbd
  generalize zs.length = n0 at *
  have j4 : (n0 : Int) ≤ 254 := by omega
  go_enter Tryd.func30, Tryd.ntmps30
  go_wp2_with fail
  go_region_with (first
    | (refine kept_appendI_intro _ _ _ _ (.slice (some ⟨g1, 0, none⟩) (n0 + 1) c1) (w' := w1) (by rfl) (by rfl) (by exact HR1.out) ?_)
    | (refine kept_appendS_intro _ _ _ _ (.slice a9 1 c9) (w' := w9) (by rfl) (by rfl) (by exact HR.out) ?_))
  all_goals go_wp2
  all_goals go_ret
  all_goals exact ⟨⟨a9, c9, rfl, HD.out⟩, HB.out⟩
end
theorem rprep_anyF {F : Nat → Prop} {wB : World} (a : Option Addr) (c : Nat) (ss : List (Bool × List Int)) (z : Int) (w : World) (hF : Ford F wB w) (hl : ss.length ≤ 100000) (hlc : ss.length ≤ c) (h : PthRd wB a ss) :
    Calls Tryd.prog 30 #[.slice a ss.length c, .int .i64 z] w fun e w' => PrepResF F w w' (prepP z ss) e := by
  cases ss with
  | nil => exact rprep_nilF a c z w hF h
  | cons s r =>
    obtain ⟨b, off, rfl, hcB⟩ := h.cells (by simp)
    obtain ⟨b2, off2, e2, hc⟩ := (h.below hF.1).cells (by simp)
    cases e2
    obtain ⟨h0, a0, c0, h1, hi⟩ := hc 0 s (by simp)
    simp only [Nat.zero_mul, Nat.add_zero] at h0 h1
    by_cases hs : s.1 = false ∧ s.2.length ≤ 254
    · rw [show prepP z (s :: r) = (false, z :: s.2) :: r from by rw [prepP, if_pos hs]]
      rw [hs.1] at h0
      by_cases hc1 : c = 1
      · subst hc1
        have hr : r = [] := by
          cases r with
          | nil => rfl
          | cons x y => simp at hlc
        subst hr
        exact rprep_seq1F b off s.2 z w hF c0 a0 hs.2 h0 h1 hi
      · have hr : PthRd wB (some ⟨b, off + 2, none⟩) r := ⟨fun _ => ⟨b, off + 2, rfl, fun i x hx => by
            have := hcB (i + 1) x (by simpa using hx)
            rwa [show off + (i + 1) * 2 = off + 2 + i * 2 from by omega] at this⟩, by have := h.small; simp only [List.length_cons] at this; omega, fun x hx => h.smalls x (List.mem_cons_of_mem _ hx)⟩
        exact rprep_seqF b off c s.2 r z w hF c0 a0 (by simp only [List.length_cons] at hl; omega) hs.2 (by simpa using hlc) hc1 hr h0 h1 hi
    · rw [show prepP z (s :: r) = (false, [z]) :: s :: r from by rw [prepP, if_neg hs]]
      refine rprep_setF b off c (s :: r) z w hF s.2.length c0 a0 s.1 hl (by simp) h h0 h1 ?_
      cases hk : s.1 with
      | true => exact .inl rfl
      | false => exact .inr (by have : ¬ s.2.length ≤ 254 := fun h9 => hs ⟨hk, h9⟩; omega)
end Go.Proofs.YtclihbfjendllaaDoor
