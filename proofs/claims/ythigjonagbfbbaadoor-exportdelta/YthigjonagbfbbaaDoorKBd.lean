/- What is told, put in order; the Updates, one behind the other; how many they tell (plain). -/
import Derived.Test.YthigjonagbfbbaaDoorExTg
import Derived.Test.YthigjonagbfbbaaDoorExTh
import Derived.Test.YthigjonagbfbbaaDoorExU
import Derived.Test.YthigjonagbfbbaaDoorKAt
namespace Go.Proofs.YthigjonagbfbbaaDoor
open Go.RowKit
set_option maxRecDepth 100000

theorem risesL_of (l : List TE) (h : RisesT l) : RisesL (l.map Prod.fst) := by
  unfold RisesL
  rw [List.pairwise_map]
  refine h.imp fun h9 => ?_
  unfold lessT lessB at h9
  unfold lessL
  exact of_decide_eq_true h9
theorem told_risesL (l : List TE) : RisesL ((toldT l).map Prod.fst) := risesL_of _ (toldT_rises l)
/-- One more told, whoever was told it before. -/
def same1 (f : Array Value → At) (s t : Tl) : Bool := decide (t.A = s.A ∧ t.L = s.L) && eqA (f t.C) (f s.C)
def same2 (s t : Tl) : Bool := decide (s.A = t.A ∧ s.L = t.L)
def cntB (p : Tl → Bool) : List Tl → Int
  | [] => 0
  | t :: l => (if p t then 1 else 0) + cntB p l
theorem cntB_snoc (p : Tl → Bool) : ∀ (l : List Tl) (t : Tl), cntB p (l ++ [t]) = cntB p l + (if p t then 1 else 0)
  | [], t => by simp [cntB]
  | x :: l, t => by
    rw [List.cons_append, cntB, cntB, cntB_snoc p l t]
    omega
theorem cntB_none {p : Tl → Bool} : ∀ {l : List Tl}, (∀ t ∈ l, p t = false) → cntB p l = 0
  | [], _ => rfl
  | x :: l, h => by
    rw [cntB, cntB_none (fun t ht => h t (List.mem_cons_of_mem _ ht)), h x List.mem_cons_self]
    rfl
theorem cntB_one {p : Tl → Bool} : ∀ {l : List Tl}, RisesL l → (∀ t ∈ l, ∀ u ∈ l, p t = true → p u = true → t = u) → ∀ t ∈ l, p t = true → cntB p l = 1
  | [], _, _, t, ht, _ => by cases ht
  | x :: l, hr, hu, t, ht, hp => by
    have hr2 := List.pairwise_cons.1 hr
    have hxl : ∀ y ∈ l, x ≠ y := fun y hy e => by
      have := hr2.1 y hy
      rw [← e] at this
      unfold lessL at this
      omega
    rw [cntB]
    cases hx : p x with
    | true =>
      rw [cntB_none (fun y hy => by
        cases e : p y with
        | false => rfl
        | true => exact absurd (hu x List.mem_cons_self y (List.mem_cons_of_mem _ hy) hx e) (hxl y hy))]
      rfl
    | false =>
      have htl : t ∈ l := by
        rcases List.mem_cons.1 ht with rfl | h
        · rw [hx] at hp; cases hp
        · exact h
      rw [cntB_one hr2.2 (fun a ha b hb => hu a (List.mem_cons_of_mem _ ha) b (List.mem_cons_of_mem _ hb)) t htl hp]
      rfl
/-- What is odd of the newer things, and of the elder. -/
def odd1 (f : Array Value → At) (old : List Tl) : List Tl → Int
  | [] => 0
  | s :: l => (1 - cntB (same1 f s) old) + odd1 f old l
def odd2 (fresh : List Tl) : List Tl → Int
  | [] => 0
  | s :: l => (1 - cntB (same2 s) fresh) + odd2 fresh l
theorem odd1_snoc (f : Array Value → At) (old : List Tl) : ∀ (l : List Tl) (s : Tl), odd1 f old (l ++ [s]) = odd1 f old l + (1 - cntB (same1 f s) old)
  | [], s => by simp [odd1]
  | x :: l, s => by
    rw [List.cons_append, odd1, odd1, odd1_snoc f old l s]
    omega
theorem odd2_snoc (fresh : List Tl) : ∀ (l : List Tl) (s : Tl), odd2 fresh (l ++ [s]) = odd2 fresh l + (1 - cntB (same2 s) fresh)
  | [], s => by simp [odd2]
  | x :: l, s => by
    rw [List.cons_append, odd2, odd2, odd2_snoc fresh l s]
    omega
theorem odd1_is (f : Array Value → At) (old : List Tl) (h : RisesL old) : ∀ l : List Tl, odd1 f old l = ((l.filter (newB old f)).length : Int)
  | [] => rfl
  | s :: l => by
    rw [odd1, odd1_is f old h l, List.filter_cons]
    have huni : ∀ t ∈ old, ∀ u ∈ old, same1 f s t = true → same1 f s u = true → t = u := fun t ht u hu h1 h2 => by
      unfold same1 at h1 h2
      simp only [Bool.and_eq_true, decide_eq_true_eq] at h1 h2
      exact rises_key h ht hu (by omega) (by omega)
    cases hn : newB old f s with
    | true =>
      have : cntB (same1 f s) old = 0 := cntB_none fun t ht => by
        cases e : same1 f s t with
        | false => rfl
        | true =>
          unfold same1 at e
          simp only [Bool.and_eq_true, decide_eq_true_eq] at e
          have hb := byP_here h ht
          rw [e.1.1, e.1.2] at hb
          unfold newB at hn
          rw [hb] at hn
          simp [foundC, e.2] at hn
      rw [this]
      simp
      omega
    | false =>
      unfold newB at hn
      cases hb : byP old s.A s.L with
      | none => rw [hb] at hn; simp at hn
      | some C =>
        obtain ⟨t, ht, h1, h2, h3⟩ := byP_mem old _ _ _ hb
        rw [hb] at hn
        have he : eqA (f C) (f s.C) = true := by simpa [foundC] using hn
        have : cntB (same1 f s) old = 1 := cntB_one h huni t ht (by unfold same1; rw [h3, he, decide_eq_true ⟨h1, h2⟩]; rfl)
        rw [this]
        simp
theorem odd2_is (fresh : List Tl) (h : RisesL fresh) : ∀ l : List Tl, odd2 fresh l = ((l.filter (goneB fresh)).length : Int)
  | [] => rfl
  | s :: l => by
    rw [odd2, odd2_is fresh h l, List.filter_cons]
    have huni : ∀ t ∈ fresh, ∀ u ∈ fresh, same2 s t = true → same2 s u = true → t = u := fun t ht u hu h1 h2 => by
      have h1 := of_decide_eq_true h1
      have h2 := of_decide_eq_true h2
      exact rises_key h ht hu (by omega) (by omega)
    cases hn : goneB fresh s with
    | true =>
      have hno : byP fresh s.A s.L = none := by unfold goneB at hn; simpa using hn
      have : cntB (same2 s) fresh = 0 := cntB_none fun t ht => decide_eq_false fun e => (byP_no fresh _ _).1 hno t ht ⟨e.1.symm, e.2.symm⟩
      rw [this]
      simp
      omega
    | false =>
      unfold goneB at hn
      cases hb : byP fresh s.A s.L with
      | none => rw [hb] at hn; cases hn
      | some C =>
        obtain ⟨t, ht, h1, h2, h3⟩ := byP_mem fresh _ _ _ hb
        have : cntB (same2 s) fresh = 1 := cntB_one h huni t ht (decide_eq_true ⟨h1.symm, h2.symm⟩)
        rw [this]
        simp
/-- A route put for a prefix that is told. -/
def rtU (u : Up) (p : Nat × Int) : Rt := ⟨p.1, p.2, 0, u.att, 0⟩
/-- One Update, played. -/
def playU (l : List Rt) (u : Up) : List Rt := putsL (u.nlri.map (rtU u)) (dropsL u.gone l)
def seenU : List Up → Nat
  | [] => 0
  | u :: us => u.gone.length + u.nlri.length + seenU us
theorem seenU_snoc : ∀ (us : List Up) (u : Up), seenU (us ++ [u]) = seenU us + (u.gone.length + u.nlri.length)
  | [], u => by simp [seenU]
  | x :: us, u => by
    rw [List.cons_append, seenU, seenU, seenU_snoc us u]
    omega
theorem dropsL_app (ps qs : List (Nat × Int)) (l : List Rt) : dropsL (ps ++ qs) l = dropsL qs (dropsL ps l) := by unfold dropsL; rw [List.foldl_append]
theorem putsL_app (ps qs : List Rt) (l : List Rt) : putsL (ps ++ qs) l = putsL qs (putsL ps l) := by unfold putsL; rw [List.foldl_append]
theorem play_gone : ∀ (cs : List (List (Nat × Int))) (l : List Rt), (cs.map goneU).foldl playU l = dropsL cs.flatten l
  | [], _ => rfl
  | c :: cs, l => by
    rw [List.map_cons, List.foldl_cons, play_gone cs, List.flatten_cons, dropsL_app]
    rfl
theorem play_new (f : Array Value → At) : ∀ (ts : List Tl) (l : List Rt), (ts.map (tellU f)).foldl playU l = putsL (ts.map (rtF f)) l
  | [], _ => rfl
  | t :: ts, l => by
    rw [List.map_cons, List.foldl_cons, play_new f ts]
    rfl
theorem seen_gone : ∀ cs : List (List (Nat × Int)), seenU (cs.map goneU) = cs.flatten.length
  | [] => rfl
  | c :: cs => by
    rw [List.map_cons, seenU, seen_gone cs, List.flatten_cons, List.length_append]
    rfl
theorem seen_new (f : Array Value → At) : ∀ ts : List Tl, seenU (ts.map (tellU f)) = ts.length
  | [] => rfl
  | t :: ts => by
    rw [List.map_cons, seenU, seen_new f ts, List.length_cons]
    show 0 + 1 + _ = _
    omega
theorem seenU_app : ∀ (us vs : List Up), seenU (us ++ vs) = seenU us + seenU vs
  | [], vs => by simp [seenU]
  | u :: us, vs => by
    rw [List.cons_append, seenU, seenU, seenU_app us vs]
    omega
theorem delta_play (old fresh : List Tl) (f : Array Value → At) (ho : RisesL old) (hf : RisesL fresh) : (deltaU old fresh f).foldl playU (old.map (rtF f)) = fresh.map (rtF f) := by
  unfold deltaU
  rw [List.foldl_append, play_gone, play_new, hunds_flat, played old fresh f ho hf]
theorem delta_seen (old fresh : List Tl) (f : Array Value → At) (ho : RisesL old) (hf : RisesL fresh) : (seenU (deltaU old fresh f) : Int) = odd1 f old fresh + odd2 fresh old := by
  unfold deltaU
  rw [seenU_app, seen_gone, seen_new, hunds_flat, odd1_is f old ho, odd2_is fresh hf]
  unfold goneL newL
  rw [List.length_map]
  omega
/-- None of the parts is empty. -/
theorem hund_some {α : Type} (l : List α) : ∀ c ∈ (hund l).1, c ≠ [] := by
  have key : ∀ m : List α, ∀ c ∈ (hund m.reverse).1, c ≠ [] := by
    intro m
    induction m with
    | nil => intro c hc; cases hc
    | cons x m ih =>
      rw [List.reverse_cons, hund_snoc]
      intro c hc
      unfold hundS at hc
      split at hc
      · exact ih c hc
      · rcases List.mem_append.1 hc with h | h
        · exact ih c h
        · rw [List.mem_singleton] at h
          subst h
          simp
  have := key l.reverse
  rwa [List.reverse_reverse] at this
theorem hunds_some {α : Type} (l : List α) : ∀ c ∈ hunds l, 0 < c.length ∧ c.length ≤ 100 := by
  intro c hc
  obtain ⟨i, hi, e⟩ := List.getElem_of_mem hc
  have h1 := hunds_part l i c (by rw [List.getElem?_eq_getElem hi, e])
  refine ⟨?_, h1.1⟩
  unfold hunds at hc
  rcases List.mem_append.1 hc with h | h
  · have := hund_some l c h
    cases c with
    | nil => exact absurd rfl this
    | cons _ _ => simp
  · unfold lastH at h
    split at h
    · cases h
    · rename_i hne
      rw [List.mem_singleton] at h
      subst h
      cases hz : (hund l).2 with
      | nil => exact absurd hz hne
      | cons _ _ => simp
/-- What an Update of these is. -/
def UpOk (u : Up) : Prop := (0 < u.gone.length ∧ u.gone.length ≤ 100 ∧ u.nlri = []) ∨ (u.gone = [] ∧ u.nlri.length = 1)
theorem delta_ok (old fresh : List Tl) (f : Array Value → At) : ∀ u ∈ deltaU old fresh f, UpOk u := by
  intro u hu
  unfold deltaU at hu
  rcases List.mem_append.1 hu with h | h
  · obtain ⟨c, hc, rfl⟩ := List.mem_map.1 h
    have := hunds_some _ c hc
    exact .inl ⟨this.1, this.2, rfl⟩
  · obtain ⟨t, ht, rfl⟩ := List.mem_map.1 h
    exact .inr ⟨rfl, rfl⟩
theorem delta_len (old fresh : List Tl) (f : Array Value → At) (ho : old.length ≤ 400) (hf : fresh.length ≤ 400) : (deltaU old fresh f).length ≤ 1000 := by
  unfold deltaU
  have h1 := hunds_len (goneL old fresh)
  have h2 := goneL_len old fresh
  have h3 := newL_len old fresh f
  rw [List.length_append, List.length_map, List.length_map]
  omega
end Go.Proofs.YthigjonagbfbbaaDoor
/- Routes out of what is told; what an Update holds, cell by cell. -/
namespace Go.Proofs.YthigjonagbfbbaaDoor
open Go.RowKit
set_option maxRecDepth 100000

theorem loadA_tl {w : World} {b off i : Nat} {t : Tl} (hc : ∀ (j : Nat) (v : Value), (tlC t)[j]? = some v → w.cell? ⟨b, off + i * 9 + j, none⟩ = some v) (h : AC t.C) : (Instr.loadAt 34 (.pointer (some ⟨b, off + i * 9 + 2, none⟩))).run Tryd.prog w = .ok (.agg t.C) w := by
  have := run_loadAt_mid (P := Tryd.prog) w b (off + i * 9 + 2) 34 t.C.toList _ (fun j v hv => by
    have h1 := hc (2 + j) v (tl_split j v hv)
    rw [← Nat.add_assoc] at h1
    exact h1) Tryd.underlying34 rfl (by rw [infoA]; simp [h.1])
  simpa using this
theorem run_buildRt (A : Nat) (L : Int) (pa : Option Addr) (pc : Nat) (ca : Option Addr) (cc : Nat) (ra : Option Addr) (rc : Nat) (a : At) (w : World) : (Instr.build 36 #[(0, .agg #[.int .u32 (A : Int), .int .i64 L]), (2, .agg (atC pa pc ca cc ra rc a))]).run Tryd.prog w = .ok (.agg (rtC pa pc ca cc ra rc ⟨A, L, 0, a, 0⟩)) w := by kernel_rfl
theorem run_bsRt (pa : Option Addr) (pc : Nat) (ca : Option Addr) (cc : Nat) (ra : Option Addr) (rc : Nat) (r : Rt) (w : World) : (Instr.buildSlice 52 1 #[(0, .agg (rtC pa pc ca cc ra rc r))]).run Tryd.prog w = .ok (.slice (some ⟨w.heap.size, 0, none⟩) 1 1) (w.alloc (.cells (rtC pa pc ca cc ra rc r) 36)) := by kernel_rfl
/-- An Update's cells. -/
structure UpIn (w : World) (g i : Nat) (u : Up) (ga na : Option Addr) (gc nc : Nat) (pa : Option Addr) (pc : Nat) (ca : Option Addr) (cc : Nat) (ra : Option Addr) (rc : Nat) : Prop where
  gone : w.cell? ⟨g, i * 9, none⟩ = some (.slice ga u.gone.length gc)
  nlri : w.cell? ⟨g, i * 9 + 8, none⟩ = some (.slice na u.nlri.length nc)
  att : ∀ (j : Nat) (v : Value), (atC pa pc ca cc ra rc u.att)[j]? = some v → w.cell? ⟨g, i * 9 + 1 + j, none⟩ = some v
  gones : ∀ (k : Nat) (p : Nat × Int), u.gone[k]? = some p → ∃ b, ga = some ⟨b, 0, none⟩ ∧ w.cell? ⟨b, k * 2, none⟩ = some (.int .u32 (p.1 : Int)) ∧ w.cell? ⟨b, k * 2 + 1, none⟩ = some (.int .i64 p.2)
  nlris : ∀ (k : Nat) (p : Nat × Int), u.nlri[k]? = some p → ∃ b, na = some ⟨b, 0, none⟩ ∧ w.cell? ⟨b, k * 2, none⟩ = some (.int .u32 (p.1 : Int)) ∧ w.cell? ⟨b, k * 2 + 1, none⟩ = some (.int .i64 p.2)
  rd : AtRd w pa ca ra u.att
theorem pcs_at2 : ∀ (l : List (Nat × Int)) (j : Nat) (p : Nat × Int), l[j]? = some p → (pcs l)[j * 2 + 1]? = some (.int .i64 p.2)
  | [], _, _, h => by simp at h
  | q :: l, 0, p, h => by
    simp at h
    subst h
    rfl
  | q :: l, j + 1, p, h => by
    rw [show (j + 1) * 2 + 1 = j * 2 + 1 + 1 + 1 by omega]
    simp only [pcs, List.getElem?_cons_succ]
    exact pcs_at2 l j p (by simpa using h)
theorem pcs_row {w : World} {N : Nat} {v : Value} {l : List (Nat × Int)} (h : w.ownsRow N 29 2 v l.length (pcs l)) : ∃ a c, v = .slice a l.length c ∧ ∀ (k : Nat) (p : Nat × Int), l[k]? = some p → ∃ b, a = some ⟨b, 0, none⟩ ∧ w.cell? ⟨b, k * 2, none⟩ = some (.int .u32 (p.1 : Int)) ∧ w.cell? ⟨b, k * 2 + 1, none⟩ = some (.int .i64 p.2) := by
  obtain ⟨a, c, rfl⟩ := own_shape h
  refine ⟨a, c, rfl, fun k p hp => ?_⟩
  have hk := (List.getElem?_eq_some_iff.1 hp).1
  obtain ⟨g, cap, e, _, _⟩ := h.form (by omega)
  injection e with e1 e2 e3
  subst e1 e3
  refine ⟨g, rfl, ?_, ?_⟩
  · rw [h.cellAt (k * 2) (by omega)]; exact pcs_at l k p hp
  · rw [h.cellAt (k * 2 + 1) (by omega)]; exact pcs_at2 l k p hp
/-- An Update of Delta's answer, in any later world. -/
theorem up_in {N : Nat} {w w' : World} {u : Up} {cs : List Value} {g i : Nat} (h : UpAt N u cs w) (hb : Below w.heap.size w w') (hc : ∀ (j : Nat) (x : Value), cs[j]? = some x → w.cell? ⟨g, i * 9 + j, none⟩ = some x) (hs : sizeA u.att ≤ 100000) (hn : u.att.next < 4294967296) (hy : ∀ r ∈ u.att.raws, ∀ x ∈ r.2.2, x < 256) :
    ∃ ga na gc nc pa pc ca cc ra rc, UpIn w' g i u ga na gc nc pa pc ca cc ra rc := by
  obtain ⟨gv, nv, pa, pc, ca, cc, ra, rc, rfl, hgv, hnv, hat⟩ := h
  obtain ⟨ga, gc, rfl, hg⟩ := pcs_row hgv
  obtain ⟨na, nc, rfl, hnl⟩ := pcs_row hnv
  have up : ∀ (j : Nat) (x : Value) (b : Nat), w.cell? ⟨b, j, none⟩ = some x → w'.cell? ⟨b, j, none⟩ = some x := fun j x b h1 => by rw [hb.cell (World.block_lt_of_cell? w _ h1)]; exact h1
  refine ⟨ga, na, gc, nc, pa, pc, ca, cc, ra, rc, up _ _ _ (hc 0 _ rfl), up _ _ _ (hc 8 _ rfl), fun j v hv => ?_, fun k p hp => ?_, fun k p hp => ?_, (hat.rd hs hn hy).below hb⟩
  · rw [Nat.add_assoc]
    refine up _ _ _ (hc (1 + j) v ?_)
    have hj : j < 7 := by
      have := (Array.getElem?_eq_some_iff.1 hv).1
      simpa [atC] using this
    unfold upC
    rw [List.append_assoc, List.getElem?_append_right (by simp), List.getElem?_append_left (by simp [atC]; omega), Array.getElem?_toList, ← hv]
    congr 1
    simp
  · obtain ⟨b, e, h1, h2⟩ := hg k p hp
    exact ⟨b, e, up _ _ _ h1, up _ _ _ h2⟩
  · obtain ⟨b, e, h1, h2⟩ := hnl k p hp
    exact ⟨b, e, up _ _ _ h1, up _ _ _ h2⟩
theorem loadA_up {w : World} {g i : Nat} {u : Up} {ga na : Option Addr} {gc nc : Nat} {pa : Option Addr} {pc : Nat} {ca : Option Addr} {cc : Nat} {ra : Option Addr} {rc : Nat} (h : UpIn w g i u ga na gc nc pa pc ca cc ra rc) : (Instr.loadAt 34 (.pointer (some ⟨g, i * 9 + 1, none⟩))).run Tryd.prog w = .ok (.agg (atC pa pc ca cc ra rc u.att)) w := by
  have := run_loadAt_mid (P := Tryd.prog) w g (i * 9 + 1) 34 (atC pa pc ca cc ra rc u.att).toList _ (fun j v hv => h.att j v (by rw [← Array.getElem?_toList]; exact hv)) Tryd.underlying34 rfl (by rw [infoA]; rfl)
  simpa using this
theorem UpIn.later {w w' : World} {g i : Nat} {u : Up} {ga na : Option Addr} {gc nc : Nat} {pa : Option Addr} {pc : Nat} {ca : Option Addr} {cc : Nat} {ra : Option Addr} {rc : Nat} (h : UpIn w g i u ga na gc nc pa pc ca cc ra rc) (hb : Below w.heap.size w w') : UpIn w' g i u ga na gc nc pa pc ca cc ra rc := by
  have up : ∀ (j : Nat) (x : Value) (b : Nat), w.cell? ⟨b, j, none⟩ = some x → w'.cell? ⟨b, j, none⟩ = some x := fun j x b h1 => by rw [hb.cell (World.block_lt_of_cell? w _ h1)]; exact h1
  refine ⟨up _ _ _ h.gone, up _ _ _ h.nlri, fun j v hv => up _ _ _ (h.att j v hv), fun k p hp => ?_, fun k p hp => ?_, h.rd.below hb⟩
  · obtain ⟨b, e, h1, h2⟩ := h.gones k p hp
    exact ⟨b, e, up _ _ _ h1, up _ _ _ h2⟩
  · obtain ⟨b, e, h1, h2⟩ := h.nlris k p hp
    exact ⟨b, e, up _ _ _ h1, up _ _ _ h2⟩
theorem mid_len (r : Rt) : ∀ l : List Rt, (l.filter (fun x => aheadK x r)).length + (l.filter (fun x => aheadK r x)).length ≤ l.length
  | [] => Nat.zero_le _
  | y :: l => by
    have ih := mid_len r l
    rw [List.filter_cons, List.filter_cons]
    cases h1 : aheadK y r <;> cases h2 : aheadK r y
    · simp; omega
    · simp; omega
    · simp; omega
    · rw [ahead_asym h1] at h2; cases h2
theorem midR_len (r : Rt) (l : List Rt) : (midR r l).length ≤ l.length + 1 := by
  have := mid_len r l
  unfold midR
  simp only [List.length_append, List.length_cons, List.length_nil]
  omega
/-- The routes of the first k prefixes of an Update, put one behind the other. -/
def putsK (u : Up) (D : List Rt) (k : Nat) : List Rt := putsL ((u.nlri.take k).map (rtU u)) D
theorem putsK_more (u : Up) (D : List Rt) (k : Nat) (p : Nat × Int) (h : u.nlri[k]? = some p) : putsK u D (k + 1) = putL (rtU u p) (putsK u D k) := by
  unfold putsK
  rw [take_more u.nlri k p h, List.map_append, putsL_app]
  rfl
theorem putsK_all (u : Up) (L : List Rt) (k : Nat) (h : k = u.nlri.length) : putsK u (dropsL u.gone L) k = playU L u := by
  unfold putsK playU
  rw [List.take_of_length_le (by omega)]
theorem dropsL_len : ∀ (ps : List (Nat × Int)) (l : List Rt), (dropsL ps l).length ≤ l.length
  | [], _ => Nat.le_refl _
  | p :: ps, l => Nat.le_trans (dropsL_len ps (dropL p.1 p.2 0 l)) (dropL_length _ _ _ _)
theorem playU_len (u : Up) (l : List Rt) (hu : UpOk u) (hr : RisesR l) : (playU l u).length ≤ l.length + 1 ∧ RisesR (playU l u) := by
  unfold playU
  have h1 := dropsL_len u.gone l
  have h2 := drops_rises u.gone l hr
  rcases hu with ⟨_, _, h3⟩ | ⟨_, h3⟩
  · rw [h3]
    exact ⟨by show (dropsL u.gone l).length ≤ _; omega, h2⟩
  · match hn : u.nlri, h3 with
    | [p], _ =>
      refine ⟨?_, rises_put _ _ h2⟩
      show (putL _ _).length ≤ _
      rw [putL_is _ _ h2]
      have := midR_len (rtU u p) (dropsL u.gone l)
      omega
theorem plays_len : ∀ (us : List Up) (l : List Rt), (∀ u ∈ us, UpOk u) → RisesR l → (us.foldl playU l).length ≤ l.length + us.length ∧ RisesR (us.foldl playU l)
  | [], l, _, hr => ⟨Nat.le_refl _, hr⟩
  | u :: us, l, h, hr => by
    have h1 := playU_len u l (h u List.mem_cons_self) hr
    have h2 := plays_len us (playU l u) (fun v hv => h v (List.mem_cons_of_mem _ hv)) h1.2
    rw [List.foldl_cons, List.length_cons]
    exact ⟨by omega, h2.2⟩
theorem TlAt.below {w w' : World} {p : TE} (h : TlAt w p) (hb : Below w.heap.size w w') : TlAt w' p := by
  obtain ⟨h1, pa, pc, ca, cc, ra, rc, e, hr⟩ := h
  exact ⟨h1, pa, pc, ca, cc, ra, rc, e, hr.below hb⟩
/-- One function from cells to attributes for both lists. -/
theorem tell_two (l0 l1 : List TE) (w : World) (h0 : ∀ p ∈ l0, TlAt w p) (h1 : ∀ p ∈ l1, TlAt w p) : ∃ f : Array Value → At, (∀ t ∈ (toldT l0).map Prod.fst, CellAt w f t.C ∧ AC t.C) ∧ ∀ t ∈ (toldT l1).map Prod.fst, CellAt w f t.C ∧ AC t.C := by
  have key : ∀ (l : List TE), (∀ p ∈ l, TlAt w p) → ∀ p ∈ toldT l, TlAt w p ∧ sizeA p.2 ≤ 100000 := fun l h p hp => by
    obtain ⟨hm, hok⟩ := toldT_mem l p hp
    refine ⟨h p hm, ?_⟩
    unfold okT at hok
    rw [Bool.and_eq_true] at hok
    have : sizeA p.2 < 3000 := of_decide_eq_true hok.2
    omega
  obtain ⟨f, hf⟩ := tolds_f w (toldT l0 ++ toldT l1) (fun p hp => by
    rcases List.mem_append.1 hp with h | h
    · exact key l0 h0 p h
    · exact key l1 h1 p h)
  refine ⟨f, fun t ht => ?_, fun t ht => ?_⟩
  · obtain ⟨p, hp, rfl⟩ := List.mem_map.1 ht
    exact ⟨hf p (List.mem_append_left _ hp), (key l0 h0 p hp).1.ac⟩
  · obtain ⟨p, hp, rfl⟩ := List.mem_map.1 ht
    exact ⟨hf p (List.mem_append_right _ hp), (key l1 h1 p hp).1.ac⟩
theorem delta_att {w : World} {fresh : List Tl} {f : Array Value → At} (old : List Tl) (h : ∀ t ∈ fresh, CellAt w f t.C) : ∀ u ∈ deltaU old fresh f, sizeA u.att ≤ 100000 ∧ u.att.next < 4294967296 ∧ ∀ r ∈ u.att.raws, ∀ x ∈ r.2.2, x < 256 := by
  intro u hu
  unfold deltaU at hu
  rcases List.mem_append.1 hu with h9 | h9
  · obtain ⟨c, hc, rfl⟩ := List.mem_map.1 h9
    exact ⟨by show (0 : Nat) ≤ _; omega, by show (0 : Nat) < _; omega, fun r hr => by cases hr⟩
  · obtain ⟨t, ht, rfl⟩ := List.mem_map.1 h9
    obtain ⟨pa, pc, ca, cc, ra, rc, _, hr, hs⟩ := h t (List.mem_filter.1 ht).1
    exact ⟨hs, hr.next, hr.raws.bytes⟩
theorem seen_le : ∀ (us : List Up), (∀ u ∈ us, UpOk u) → seenU us ≤ 101 * us.length
  | [], _ => Nat.le_refl _
  | u :: us, h => by
    have h1 := seen_le us (fun v hv => h v (List.mem_cons_of_mem _ hv))
    have h2 := h u List.mem_cons_self
    rw [seenU, List.length_cons]
    rcases h2 with ⟨_, h3, h4⟩ | ⟨h3, h4⟩
    · rw [h4]; simp; omega
    · rw [h3, h4]; simp; omega
theorem cntB_le (p : Tl → Bool) : ∀ l : List Tl, 0 ≤ cntB p l ∧ cntB p l ≤ (l.length : Int)
  | [] => ⟨Int.le_refl _, Int.le_refl _⟩
  | t :: l => by
    have h1 := cntB_le p l
    rw [cntB, List.length_cons]
    cases p t <;> simp <;> omega
theorem odd1_le (f : Array Value → At) (old : List Tl) (h : RisesL old) (l : List Tl) : 0 ≤ odd1 f old l ∧ odd1 f old l ≤ (l.length : Int) := by
  rw [odd1_is f old h]
  have := List.length_filter_le (newB old f) l
  omega
theorem odd2_le (fresh : List Tl) (h : RisesL fresh) (l : List Tl) : 0 ≤ odd2 fresh l ∧ odd2 fresh l ≤ (l.length : Int) := by
  rw [odd2_is fresh h]
  have := List.length_filter_le (goneB fresh) l
  omega
end Go.Proofs.YthigjonagbfbbaaDoor
