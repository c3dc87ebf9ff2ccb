/- The program's appendRaw. -/
import Derived.Test.YtempaadgheondaaDoorHOn2
import Derived.Test.YtempaadgheondaaDoorHQe
import Derived.Test.YtempaadgheondaaDoorAtQ
import Derived.Test.YtempaadgheondaaDoorAtQr
namespace Go.Proofs.YtempaadgheondaaDoor
open Go.RowKit
set_option maxRecDepth 100000

theorem or16 : ∀ fl : Nat, fl < 256 → fl / 16 % 2 = 0 → bits .or .i64 (fl : Int) 16 = ((fl + 16 : Nat) : Int) := by
  intro fl h1 h2
  have key : ∀ x : Fin 256, x.val / 16 % 2 = 0 → bits .or .i64 (x.val : Int) 16 = ((x.val + 16 : Nat) : Int) := by decide +kernel
  exact key ⟨fl, h1⟩ h2
theorem own_some {w : World} {B e size n : Nat} {v : Value} {xs : List Value} (h : w.ownsRow B e size v n xs) (hn : 0 < n) : ∃ g k, v = .slice (some ⟨g, 0, none⟩) n k := by
  rcases h.2 with ⟨_, h0⟩ | ⟨g, cap, cur, e, _⟩
  · omega
  · exact ⟨g, cap, e⟩
/-- Bytes ys behind a row, then the bytes of a slice behind these. -/
theorem two_more (w0 w : World) (B : Nat) (ob : Obj) (v : Value) (pre ys bs : List Nat) (pn m : Nat) (cur : Array Value) (a : Option Addr) (c n : Nat) (x : Value) (hx : (w.alloc ob).cell? ⟨w.heap.size, 2, none⟩ = some x) (hB : B ≤ w.heap.size) (hw0 : w0.heap.size ≤ B) (hb0 : Below w0.heap.size w0 w) (hpn : pre.length = pn) (ho : w.ownsRow B 5 1 v pn (bcells pre)) (hpl : pn ≤ 300000) (hm : ys.length = m) (hm1 : 0 < m) (hm4 : m ≤ 8) (hcur : cur = (bcells ys).toArray) (hn : bs.length = n) (hl : n ≤ 60000) (h : BRd w0 a bs) :
    ∃ v1 w1 v2 w2, (Builtin.append_ #[30, 30] 30 #[v, .slice (some ⟨w.heap.size + 1, 0, none⟩) m m]).run Tryd.prog ((w.alloc ob).alloc (.cells cur 5)) = .ok v1 w1 ∧ w1.cell? ⟨w.heap.size, 2, none⟩ = some x ∧ (Builtin.append_ #[30, 30] 30 #[v1, .slice a n c]).run Tryd.prog w1 = .ok v2 w2 ∧ w2.ownsRow B 5 1 v2 (pre ++ (ys ++ bs)).length (bcells (pre ++ (ys ++ bs))) ∧ Below B w w2 := by
  subst hpn hn
  have hnb : v.ownBlock ≠ some w.heap.size := fun e => by have := (own_block ho _ e).2; omega
  obtain ⟨v1, w1, hr1, ho1, hb1, hk1⟩ := more_bytes (ho.alloc ob) (by simp; omega) ys m cur hm hm4 hcur (by omega)
  have q1 : w1.cell? ⟨w.heap.size, 2, none⟩ = some x := by
    rw [World.cell?_of_block (w := w.alloc ob) (hk1 w.heap.size (by simp) hnb)]
    exact hx
  rw [World.size_alloc] at hr1
  have hB1 : Below B w w1 := ((Below.refl _ _).alloc hB _).trans hb1
  have hrd : BRd w1 a bs := h.below (hb0.trans (hB1.mono hw0))
  obtain ⟨g, k, rfl⟩ := own_some ho1 (by rw [List.length_append]; omega)
  obtain ⟨v2, w2, hr2, ho2, hb2⟩ := app_brd bs a c rfl ho1 (by have := hB1.size; omega) (by rw [List.length_append]; omega) hrd
  exact ⟨_, w1, v2, w2, hr1, q1, hr2, by rw [← List.append_assoc]; exact ho2, hB1.trans hb2⟩
section
attribute [local go_sem ↓] Go.wp_at_zero Go.wp_at_succ kept_append
set_option maxHeartbeats 1600000 in
theorem appraw_any (w0 : World) (v : Value) (pre : List Nat) (pn : Nat) (fl ty : Nat) (a : Option Addr) (c : Nat) (bs : List Nat) (n : Nat) (w : World) (B : Nat) (hB : B ≤ w.heap.size) (hw0 : w0.heap.size ≤ B) (hb0 : Below w0.heap.size w0 w) (hpn : pre.length = pn) (ho : w.ownsRow B 5 1 v pn (bcells pre)) (hpl : pn ≤ 300000) (hf : fl < 240) (hf2 : fl / 16 % 2 = 0) (ht : ty < 256) (hn : bs.length = n) (hl : n ≤ 60000) (h : BRd w0 a bs) :
    Calls Tryd.prog 24 #[v, .agg #[.int .i64 (fl : Int), .int .i64 (ty : Int), .slice a n c]] w fun e w' => ∃ v', e = .returned v' ∧ w'.ownsRow B 5 1 v' (pre ++ oneB fl ty bs).length (bcells (pre ++ oneB fl ty bs)) ∧ Below B w w' := by
  have HE := hide (show oneB fl ty bs = if 255 < bs.length then [fl + 16, ty, bs.length / 256, bs.length % 256] ++ bs else [fl, ty, bs.length] ++ bs from rfl)
  rw [hn] at HE
  generalize oneB fl ty bs = ob at *
  have hty : IntKind.u8.wrap (ty : Int) = (ty : Int) := by rw [IntKind.wrap_u8]; omega
  have hx : (w.alloc (.cells #[.int .i64 (fl : Int), .int .i64 (ty : Int), .slice a n c] 48)).cell? ⟨w.heap.size, 2, none⟩ = some (.slice a n c) := by simp [go_sem]
  by_cases h255 : 255 < n
  · have HE2 : Hid (ob = [fl + 16, ty, n / 256, n % 256] ++ bs) := by show ob = _; rw [HE.out, if_pos h255]
    have hor := or16 fl (by omega) hf2
    obtain ⟨v1, w1, v2, w2, hr1, q1, hr2, ho2, hb2⟩ := two_more w0 w B _ v pre [fl + 16, ty, n / 256, n % 256] bs pn 4 #[.int .u8 ((fl : Int) + 16), .int .u8 (ty : Int), .int .u8 ((n : Int) / 256), .int .u8 ((n : Int) % 256)] a c n _ hx hB hw0 hb0 hpn ho hpl rfl (by omega) (by omega) (by simp [bcells]) hn hl h
    rw [← HE2.out] at ho2
    have HR1 := hide hr1
    have HR2 := hide hr2
    have HO2 := hide ho2
    have HB2 := hide hb2
    clear hr1 hr2 ho2 hb2 h HE HE2 ho hb0
    have hf16 : IntKind.u8.wrap ((fl + 16 : Nat) : Int) = ((fl + 16 : Nat) : Int) := by rw [IntKind.wrap_u8]; omega
    have i255 : (255 : Int) < (n : Int) := by omega
    go_enter Tryd.func24, Tryd.ntmps24
    go_wp2_with fail
    refine kept_append_intro _ _ v (.slice (some ⟨w.heap.size + 1, 0, none⟩) 4 4) v1 (w' := w1) (by rfl) (by rfl) (by exact HR1.out) ?_
    go_wp2_with fail
    refine kept_append_intro _ _ v1 (.slice a n c) v2 (w' := w2) (by rfl) (by rfl) (by exact HR2.out) ?_
    go_wp2
    go_ret
    exact ⟨_, rfl, HO2.out, HB2.out⟩
  · have HE2 : Hid (ob = [fl, ty, n] ++ bs) := by show ob = _; rw [HE.out, if_neg h255]
    obtain ⟨v1, w1, v2, w2, hr1, q1, hr2, ho2, hb2⟩ := two_more w0 w B _ v pre [fl, ty, n] bs pn 3 #[.int .u8 (fl : Int), .int .u8 (ty : Int), .int .u8 (n : Int)] a c n _ hx hB hw0 hb0 hpn ho hpl rfl (by omega) (by omega) rfl hn hl h
    rw [← HE2.out] at ho2
    have HR1 := hide hr1
    have HR2 := hide hr2
    have HO2 := hide ho2
    have HB2 := hide hb2
    clear hr1 hr2 ho2 hb2 h HE HE2 ho hb0
    have hfl : IntKind.u8.wrap (fl : Int) = (fl : Int) := by rw [IntKind.wrap_u8]; omega
    have hwn : IntKind.u8.wrap (n : Int) = (n : Int) := by rw [IntKind.wrap_u8]; omega
    have i255 : decide ((255 : Int) < (n : Int)) = false := decide_eq_false (by omega)
    go_enter Tryd.func24, Tryd.ntmps24
    go_wp2_with fail
    refine kept_append_intro _ _ v (.slice (some ⟨w.heap.size + 1, 0, none⟩) 3 3) v1 (w' := w1) (by rfl) (by rfl) (by exact HR1.out) ?_
    go_wp2_with fail
    refine kept_append_intro _ _ v1 (.slice a n c) v2 (w' := w2) (by rfl) (by rfl) (by exact HR2.out) ?_
    go_wp2
    go_ret
    exact ⟨_, rfl, HO2.out, HB2.out⟩
end
end Go.Proofs.YtempaadgheondaaDoor
/- A row of Raws, some of the call's own, some of what was handed in: made, and put in order. -/
namespace Go.Proofs.YtempaadgheondaaDoor
open Go.RowKit
set_option maxRecDepth 100000

theorem append_nothing {t e size bytes : Nat} (he : Elem t e size bytes) (w : World) (b : Addr) (n cap c : Nat) (hn : n ≤ cap) :
    (Builtin.append_ #[t, t] t #[.slice (some b) n cap, .slice none 0 c]).run Tryd.prog w = .ok (.slice (some b) n cap) w := by
  obtain ⟨i, z, hi, _⟩ := he.info
  have ht := he.sl
  simp [Builtin.append_, run_underlying ht, sizeOf, typeInfo, hi, hn, Builtin.lenOf, Builtin.firstCells, go_sem, storeCells]
theorem own_cap {w : World} {B e size n : Nat} {a : Option Addr} {c : Nat} {xs : List Value} (h : w.ownsRow B e size (.slice a n c) n xs) : n ≤ c := by
  rcases h.2 with ⟨e, h0⟩ | ⟨g, cap, cur, e, _, _, h3, _⟩
  · omega
  · simp only [Value.slice.injEq, true_and] at e
    omega
/-- v is a row of the Raws rs, new since B; their bytes are new since B, or they are read in w0. -/
def MixRaws (w : World) (B : Nat) (w0 : World) (v : Value) (rs : List (Int × Int × List Nat)) : Prop :=
  ∃ cs, w.ownsRow B 48 3 v rs.length cs ∧ ∀ i r, rs[i]? = some r → cs[i * 3]? = some (.int .i64 r.1) ∧ cs[i * 3 + 1]? = some (.int .i64 r.2.1) ∧ ∃ a' c', cs[i * 3 + 2]? = some (.slice a' r.2.2.length c') ∧ r.2.2.length ≤ c' ∧ (w.ownsRow B 5 1 (.slice a' r.2.2.length c') r.2.2.length (bcells r.2.2) ∨ BRd w0 a' r.2.2)
/-- The Raws that were handed in, behind those of the call's own. -/
theorem mix_append {w w0 : World} {B n c rc : Nat} {p ra : Option Addr} {L raws : List (Int × Int × List Nat)} (h : OwnRaws w B (.slice p n c) L) (hn : L.length = n) (h0 : 0 < n) (hR : RawRd w0 ra raws) (hb : Below w0.heap.size w0 w) (hB : B ≤ w.heap.size) (hl : n + raws.length ≤ 100000) :
    ∃ v' w', (Builtin.append_ #[25, 25] 25 #[.slice p n c, .slice ra raws.length rc]).run Tryd.prog w = .ok v' w' ∧ MixRaws w' B w0 v' (L ++ raws) ∧ Below B w w' := by
  subst hn
  obtain ⟨cs, ho, hc⟩ := h
  have hcl : cs.length = L.length * 3 := ho.1
  have own : ∀ w' : World, (∀ (x : Value) (ys : List Nat), w.ownsRow B 5 1 x ys.length (bcells ys) → w'.ownsRow B 5 1 x ys.length (bcells ys)) → ∀ (news : List Value) i r, L[i]? = some r → (cs ++ news)[i * 3]? = some (.int .i64 r.1) ∧ (cs ++ news)[i * 3 + 1]? = some (.int .i64 r.2.1) ∧ ∃ a' c', (cs ++ news)[i * 3 + 2]? = some (.slice a' r.2.2.length c') ∧ r.2.2.length ≤ c' ∧ (w'.ownsRow B 5 1 (.slice a' r.2.2.length c') r.2.2.length (bcells r.2.2) ∨ BRd w0 a' r.2.2) := fun w' hap news i r hi => by
    have hil := (List.getElem?_eq_some_iff.1 hi).1
    obtain ⟨g1, g2, u, g3, g4⟩ := hc i r hi
    obtain ⟨a', c', rfl⟩ := own_shape g4
    exact ⟨by rw [List.getElem?_append_left (by omega)]; exact g1, by rw [List.getElem?_append_left (by omega)]; exact g2, a', c', by rw [List.getElem?_append_left (by omega)]; exact g3, own_cap g4, .inl (hap _ _ g4)⟩
  have key : ∀ (ad : Addr) (m : Nat) (news : List Value), news.length = m * 3 → (∀ j u, news[j]? = some u → w.cell? (ad.add j) = some u) → (∀ u ∈ news, u.oneCell' = true) → raws.length = m → (∀ i r, raws[i]? = some r → news[i * 3]? = some (.int .i64 r.1) ∧ news[i * 3 + 1]? = some (.int .i64 r.2.1) ∧ ∃ a' c', news[i * 3 + 2]? = some (.slice a' r.2.2.length c') ∧ r.2.2.length ≤ c' ∧ BRd w0 a' r.2.2) →
      ∃ v' w', (Builtin.append_ #[25, 25] 25 #[.slice p L.length c, .slice (some ad) m rc]).run Tryd.prog w = .ok v' w' ∧ MixRaws w' B w0 v' (L ++ raws) ∧ Below B w w' := by
    intro ad m news hnl hcell hone hm hnew
    obtain ⟨v', w', hr, h2, h3, h4, _⟩ := app_more elemRaw ho hB ad m rc news hnl hcell hone (by omega)
    have hap : ∀ (x : Value) (ys : List Nat), w.ownsRow B 5 1 x ys.length (bcells ys) → w'.ownsRow B 5 1 x ys.length (bcells ys) := fun x ys hx => own_grown hx h4 (fun k hk => own_apart hx ho (by decide) k hk)
    refine ⟨v', w', hr, ⟨cs ++ news, by rw [List.length_append, hm]; exact h2, fun i r hi => ?_⟩, h3⟩
    by_cases hlt : i < L.length
    · rw [List.getElem?_append_left hlt] at hi
      exact own w' hap news i r hi
    · rw [List.getElem?_append_right (by omega)] at hi
      obtain ⟨g1, g2, a', c', g3, g4, g5⟩ := hnew _ r hi
      refine ⟨?_, ?_, a', c', ?_, g4, .inr g5⟩
      · rw [List.getElem?_append_right (by omega), show i * 3 - cs.length = (i - L.length) * 3 by omega]; exact g1
      · rw [List.getElem?_append_right (by omega), show i * 3 + 1 - cs.length = (i - L.length) * 3 + 1 by omega]; exact g2
      · rw [List.getElem?_append_right (by omega), show i * 3 + 2 - cs.length = (i - L.length) * 3 + 2 by omega]; exact g3
  by_cases hr0 : raws = []
  · subst hr0
    cases ra with
    | none =>
      obtain ⟨g, k, e⟩ := own_some ho h0
      have hcap := own_cap ho
      simp only [Value.slice.injEq, true_and] at e
      obtain ⟨rfl, rfl⟩ := e
      refine ⟨_, w, append_nothing elemRaw w _ _ _ _ hcap, ⟨cs, by rw [List.append_nil]; exact ho, fun i r hi => ?_⟩, Below.refl _ _⟩
      rw [List.append_nil] at hi
      have := own w (fun _ _ hx => hx) [] i r hi
      rw [List.append_nil] at this
      exact this
    | some ad => exact key ad 0 [] rfl (fun j u hu => by simp at hu) (by simp) rfl (fun i r hi => by simp at hi)
  · have hpos : 0 < raws.length := List.length_pos_iff.2 hr0
    obtain ⟨b, off, rfl, hat0⟩ := hR hpos
    have hat := hat0.below hb
    obtain ⟨news, hnl, hnw⟩ := exists_list (fun j (u : Value) => w.cell? ⟨b, off + j, none⟩ = some u ∧ u.oneCell' = true) (raws.length * 3) (fun j hj => by
      obtain ⟨h1, h2, a', c', h3, _, _⟩ := hat (j / 3) _ (List.getElem?_eq_getElem (by omega))
      rcases (by omega : j = j / 3 * 3 ∨ j = j / 3 * 3 + 1 ∨ j = j / 3 * 3 + 2) with e | e | e
      · rw [e]; exact ⟨_, h1, rfl⟩
      · rw [e]; exact ⟨_, h2, rfl⟩
      · rw [e]; exact ⟨_, h3, rfl⟩)
    have hget : ∀ j u, j < raws.length * 3 → w.cell? ⟨b, off + j, none⟩ = some u → news[j]? = some u := fun j u hj hu => by
      have h9 := List.getElem?_eq_getElem (l := news) (i := j) (by omega)
      have := (hnw j _ h9).1
      rw [hu] at this
      rw [h9, ← this]
    refine key ⟨b, off, none⟩ raws.length news hnl (fun j u hu => by rw [Addr.add_mid]; exact (hnw j u hu).1) (fun u hu => by
      obtain ⟨j, hj, rfl⟩ := List.mem_iff_getElem.1 hu
      exact (hnw j _ (List.getElem?_eq_getElem hj)).2) rfl (fun i r hi => ?_)
    have hil := (List.getElem?_eq_some_iff.1 hi).1
    obtain ⟨h1, h2, _⟩ := hat i r hi
    obtain ⟨_, _, a', c', h3, h4, h5⟩ := hat0 i r hi
    have h3' : w.cell? ⟨b, off + i * 3 + 2, none⟩ = some (.slice a' r.2.2.length c') := by
      rw [hb.cell (p := ⟨b, off + i * 3 + 2, none⟩) (World.block_lt_of_cell? w0 _ h3)]; exact h3
    exact ⟨hget _ _ (by omega) h1, hget _ _ (by omega) (by rw [← Nat.add_assoc]; exact h2), a', c', hget _ _ (by omega) (by rw [← Nat.add_assoc]; exact h3'), h4, h5⟩
/-- Put in order: they are read. -/
theorem mix_sort {w w0 : World} {B n : Nat} {v : Value} {rs S : List (Int × Int × List Nat)} (h : MixRaws w B w0 v rs) (hn : rs.length = n) (h0 : 0 < n) (hb : Below w0.heap.size w0 w) (hw0 : w0.heap.size ≤ B) (hB : B ≤ w.heap.size) (hl : n ≤ 100000) (hS : S.Perm rs) (hup : S.Pairwise fun x y => x.2.1 < y.2.1) (hs : ∀ r ∈ rs, r.2.2.length ≤ 500000 ∧ ∀ x ∈ r.2.2, x < 256) :
    ∃ g c, v = .slice (some ⟨g, 0, none⟩) n c ∧ Calls Tryd.prog 22 #[.slice (some ⟨g, 0, none⟩) n c, .func (.func 23) #[] #[]] w fun e w' => e = .returned (.tuple #[]) ∧ RawAt w' g 0 S ∧ Below B w w' := by
  subst hn
  obtain ⟨cs, ho, hc⟩ := h
  obtain ⟨g, c, rfl⟩ := own_some ho h0
  refine ⟨g, c, rfl, ?_⟩
  have hgB : B ≤ g := (own_block ho g rfl).1
  obtain ⟨Z, hZl, hZ⟩ := exists_list (fun i (z : RE × (Int × Int × List Nat)) => rs[i]? = some z.2 ∧ z.1.1 = z.2.1 ∧ z.1.2.1 = z.2.2.1 ∧ cs[i * 3]? = some (.int .i64 z.1.1) ∧ cs[i * 3 + 1]? = some (.int .i64 z.1.2.1) ∧ cs[i * 3 + 2]? = some (.slice z.1.2.2.1 z.1.2.2.2.1 z.1.2.2.2.2) ∧ z.1.2.2.2.1 = z.2.2.2.length ∧ z.2.2.2.length ≤ z.1.2.2.2.2 ∧ ∀ w', Keeps (fun b => b = g) w w' → BRd w' z.1.2.2.1 z.2.2.2) rs.length (fun i hi => by
    obtain ⟨h1, h2, a', c', h3, h4, h5⟩ := hc i _ (List.getElem?_eq_getElem hi)
    refine ⟨((rs[i].1, rs[i].2.1, a', rs[i].2.2.length, c'), rs[i]), List.getElem?_eq_getElem hi, rfl, rfl, h1, h2, h3, rfl, h4, fun w' hk => ?_⟩
    rcases h5 with h5 | h5
    · obtain ⟨q1, q2⟩ := hs rs[i] (List.getElem_mem hi)
      obtain ⟨a2, c2, e, _, h6⟩ := own_brd (own_other h5 ho (by decide) hk) q1 q2
      simp only [Value.slice.injEq, true_and] at e
      rw [e.1]
      exact h6
    · exact h5.below (hb.trans (hk.below w0.heap.size hb.size (fun b e => by omega))))
  have hfst : ∀ i x, (Z.map fun z => z.1)[i]? = some x → ∃ z : RE × (Int × Int × List Nat), Z[i]? = some z ∧ z.1 = x := fun i x hx => by
    rw [List.getElem?_map] at hx
    cases hz : Z[i]? with
    | none => rw [hz] at hx; cases hx
    | some z => rw [hz] at hx; exact ⟨z, hz, Option.some.inj hx⟩
  have hR : RowsE cs (Z.map fun z => z.1) := fun i x hx => by
    obtain ⟨z, hz, rfl⟩ := hfst i x hx
    obtain ⟨_, _, _, g1, g2, g3, _⟩ := hZ i z hz
    exact ⟨g1, g2, g3⟩
  have hsnd : (Z.map fun z => z.2) = rs := by
    apply List.ext_getElem?
    intro i
    rw [List.getElem?_map]
    by_cases hi : i < Z.length
    · rw [List.getElem?_eq_getElem hi, (hZ i _ (List.getElem?_eq_getElem hi)).1]; rfl
    · rw [List.getElem?_eq_none (by omega), List.getElem?_eq_none (by omega)]; rfl
  refine (sort_row (Z.map fun z => z.1) B g rs.length c cs w ho (by rw [List.length_map]; exact hZl) hR hl).mono ?_
  rintro e w' ⟨rfl, d', cs', hperm, hsort, ho', hR', hk⟩
  obtain ⟨Z', hZp, e1, e2⟩ := sort_lift (fun x : RE => x.2.1) (fun r : Int × Int × List Nat => r.2.1) d' Z hperm hsort (fun z hz => by
    obtain ⟨i, hi, rfl⟩ := List.mem_iff_getElem.1 hz
    exact (hZ i _ (List.getElem?_eq_getElem hi)).2.2.1) S (by rw [hsnd]; exact hS) hup
  have hSl : S.length = rs.length := hS.length_eq
  refine ⟨rfl, fun i r hr => ?_, hk.below B hB (fun b e => by omega)⟩
  have hil : i < S.length := (List.getElem?_eq_some_iff.1 hr).1
  rw [← e2, List.getElem?_map] at hr
  cases hz : Z'[i]? with
  | none => rw [hz] at hr; cases hr
  | some z =>
    rw [hz] at hr
    have ez : z.2 = r := Option.some.inj hr
    have hzm : z ∈ Z := hZp.mem_iff.1 (List.mem_of_getElem? hz)
    obtain ⟨j, hj, ej⟩ := List.mem_iff_getElem.1 hzm
    obtain ⟨_, q1, q2, _, _, _, q6, q7, q8⟩ := hZ j z (by rw [List.getElem?_eq_getElem hj, ej])
    obtain ⟨g1, g2, g3⟩ := hR' i z.1 (by rw [← e1, List.getElem?_map, hz]; rfl)
    rw [← ez]
    rw [Nat.zero_add, ho'.cellAt (i * 3) (by omega), ho'.cellAt (i * 3 + 1) (by omega), ho'.cellAt (i * 3 + 2) (by omega)]
    exact ⟨by rw [g1, q1], by rw [g2, q2], z.1.2.2.1, z.1.2.2.2.2, by rw [g3, q6], q7, q8 w' hk⟩
end Go.Proofs.YtempaadgheondaaDoor
