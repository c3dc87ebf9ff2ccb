/- The document's Same. -/
import Derived.Test.YtcbdegggilnphaaDoorApE
import Derived.Deep.QuietTactic
import Derived.BigQuiet
import Derived.Test.YtcbdegggilnphaaDoorHAt
namespace Go.Proofs.YtcbdegggilnphaaDoor
open Go.RowKit
set_option maxRecDepth 100000

theorem own_shape {w : World} {B e size n : Nat} {v : Value} {xs : List Value} (h : w.ownsRow B e size v n xs) : ∃ a c, v = .slice a n c := by
  rcases h.2 with ⟨rfl, rfl⟩ | ⟨g, cap, cur, rfl, _⟩
  · exact ⟨_, _, rfl⟩
  · exact ⟨_, _, rfl⟩
set_option maxHeartbeats 400000 in
theorem sameq_some (b1 o1 b2 o2 len c1 c2 : Nat) (f : Nat → Nat) (w : World) (hm : len ≤ 1000000)
    (h1 : ∀ i, i < len → w.cell? ⟨b1, o1 + i, none⟩ = some (.int .u8 (f i : Int))) (h2 : ∀ i, i < len → w.cell? ⟨b2, o2 + i, none⟩ = some (.int .u8 (f i : Int))) :
    Calls Tryd.prog 14 #[.slice (some ⟨b1, o1, none⟩) len c1, .slice (some ⟨b2, o2, none⟩) len c2] w fun e w' => e = .returned (.bool true) ∧ ∃ m, w' = w.drewN m := by
  have H1 := hide h1
  have H2 := hide h2
  clear h1 h2
  go_enter Tryd.func14, Tryd.ntmps14
  go_wp2
  go_loopw [5] (fun i wq => ∃ k m : Nat, k ≤ len ∧ i = .int .i64 k ∧ Hid (wq = w.drewN m)) (fun i _ => len - (intOf i).toNat)
  case atStart => exact ⟨0, 0, Nat.zero_le _, rfl, rfl⟩
  case round =>
    obtain ⟨k, m, hk, rfl, HW⟩ := hrel
    by_cases hlt : k < len
    · have c1 : wr.cell? ⟨b1, o1 + k, none⟩ = some (.int .u8 (f k : Int)) := by rw [HW.out, cell_drewN]; exact H1.out k hlt
      have c2 : wr.cell? ⟨b2, o2 + k, none⟩ = some (.int .u8 (f k : Int)) := by rw [HW.out, cell_drewN]; exact H2.out k hlt
      have hk0 : (0 : Int) ≤ (k : Int) := Int.natCast_nonneg _
      have hk1 : (k : Int) < (len : Int) := by omega
      go_wp2_with fail
      go_quiet (fail)
      go_wp2
      exact ⟨⟨k + 1, m + nq, by omega, by go_num, show wr.drewN nq = _ by rw [HW.out, drewN_more]⟩, by simp [intOf]; omega⟩
    · go_wp2
      go_ret
      exact ⟨rfl, m, HW.out⟩
set_option maxHeartbeats 400000 in
theorem sameq_empty (a1 a2 : Option Addr) (c1 c2 : Nat) (w : World) :
    Calls Tryd.prog 14 #[.slice a1 0 c1, .slice a2 0 c2] w fun e w' => e = .returned (.bool true) ∧ ∃ m, w' = w.drewN m := by
  go_enter Tryd.func14, Tryd.ntmps14
  go_wp2
  go_loopw [5] (fun i wq => i = .int .i64 0 ∧ wq = w) (fun i _ => 0 - (intOf i).toNat)
  case atStart => exact ⟨rfl, rfl⟩
  case round =>
    obtain ⟨rfl, rfl⟩ := hrel
    go_wp2
    go_ret
    exact ⟨rfl, 0, rfl⟩
/-- Two rows of the same bytes. -/
theorem sameb_any {w : World} {B1 B2 : Nat} {v1 v2 : Value} {bs : List Nat} (h1 : w.ownsRow B1 5 1 v1 bs.length (bcells bs)) (h2 : w.ownsRow B2 5 1 v2 bs.length (bcells bs)) (hl : bs.length ≤ 100000) :
    Calls Tryd.prog 14 #[v1, v2] w fun e w' => e = .returned (.bool true) ∧ ∃ m, w' = w.drewN m := by
  by_cases h0 : bs.length = 0
  · obtain ⟨a1, c1, rfl⟩ := own_shape h1
    obtain ⟨a2, c2, rfl⟩ := own_shape h2
    rw [h0]
    exact sameq_empty a1 a2 c1 c2 w
  · obtain ⟨g1, c1, rfl, _, _⟩ := h1.form (by omega)
    obtain ⟨g2, c2, rfl, _, _⟩ := h2.form (by omega)
    have e : ∀ i, i < bs.length → (bcells bs)[i]? = some (.int .u8 (bs.getD i 0 : Int)) := fun i hi => by simp [bcells, List.getD_eq_getElem?_getD, hi]
    exact sameq_some g1 0 g2 0 bs.length c1 c2 (fun i => bs.getD i 0) w (by omega) (fun i hi => by rw [Nat.zero_add, h1.cellAt i (by omega)]; exact e i hi) (fun i hi => by rw [Nat.zero_add, h2.cellAt i (by omega)]; exact e i hi)
end Go.Proofs.YtcbdegggilnphaaDoor
/- Bytes behind a row of the call's own; the document's one. -/
namespace Go.Proofs.YtcbdegggilnphaaDoor
open Go.RowKit
set_option maxRecDepth 100000

theorem append_nil {t e size bytes : Nat} (he : Elem t e size bytes) (w : World) (b : Addr) (n cap c : Nat) (hn : n ≤ cap) :
    (Builtin.append_ #[t, t] t #[.slice (some b) n cap, .slice none 0 c]).run Tryd.prog w = .ok (.slice (some b) n cap) w := by
  obtain ⟨i, z, hi, _⟩ := he.info
  have ht := he.sl
  simp [Builtin.append_, run_underlying ht, sizeOf, typeInfo, hi, hn, Builtin.lenOf, Builtin.firstCells, go_sem, storeCells]
/-- Bytes that are read, behind a row of the call's own. -/
theorem app_brd {w : World} {B g n k : Nat} {ys : List Nat} (zs : List Nat) (a : Option Addr) (c : Nat) (hn : ys.length = n) (ho : w.ownsRow B 5 1 (.slice (some ⟨g, 0, none⟩) n k) n (bcells ys)) (hB : B ≤ w.heap.size) (hl : n + zs.length ≤ 500000) (h : BRd w a zs) :
    ∃ v' w', (Builtin.append_ #[30, 30] 30 #[.slice (some ⟨g, 0, none⟩) n k, .slice a zs.length c]).run Tryd.prog w = .ok v' w' ∧ w'.ownsRow B 5 1 v' (ys ++ zs).length (bcells (ys ++ zs)) ∧ Below B w w' := by
  have key : ∀ ad : Addr, a = some ad → (∀ j x, (bcells zs)[j]? = some x → w.cell? (ad.add j) = some x) → ∃ v' w', (Builtin.append_ #[30, 30] 30 #[.slice (some ⟨g, 0, none⟩) n k, .slice a zs.length c]).run Tryd.prog w = .ok v' w' ∧ w'.ownsRow B 5 1 v' (ys ++ zs).length (bcells (ys ++ zs)) ∧ Below B w w' := by
    intro ad e hc
    subst e
    obtain ⟨v', w', hr, h2, h3, _, _⟩ := app_more elemU8 ho hB ad zs.length c (bcells zs) (by rw [bcells_length]; omega) hc (bcells_one _) (by omega)
    exact ⟨v', w', hr, by rw [bcells_app, List.length_append, hn]; exact h2, h3⟩
  cases a with
  | none =>
    have h0 : zs = [] := by
      cases zs with
      | nil => rfl
      | cons z r => obtain ⟨b, off, e, _⟩ := h.1.2 (by simp); cases e
    subst h0
    have hk : n ≤ k := by
      rcases ho.2 with ⟨e, _⟩ | ⟨g', cap, cur, e, _, _, h1, _⟩
      · cases e
      · simp only [Value.slice.injEq] at e
        obtain ⟨_, _, rfl⟩ := e
        exact h1
    exact ⟨_, w, append_nil elemU8 w _ n k c hk, by rw [List.append_nil, hn]; exact ho, Below.refl _ _⟩
  | some ad =>
    cases zs with
    | nil => exact key ad rfl (fun j x hx => by simp [bcells] at hx)
    | cons y r =>
      obtain ⟨b, off, e, hc⟩ := h.1.2 (by simp)
      refine key ad rfl (fun j x hx => ?_)
      cases e
      have hj : j < (y :: r).length := by have := (List.getElem?_eq_some_iff.1 hx).1; rwa [bcells_length] at this
      have h5 := hc j hj
      rw [Addr.add_mid, h5]
      have h6 : (bcells (y :: r))[j]? = some (.int .u8 (((y :: r).getD j 0 : Nat) : Int)) := by
        simp only [bcells, List.getElem?_map, List.getElem?_eq_getElem hj, Option.map_some, List.getD_eq_getElem?_getD, Option.getD_some]
      rw [h6] at hx
      exact hx
/-- A row of the call's own, read. -/
theorem own_brd {w : World} {B : Nat} {v : Value} {bs : List Nat} (h : w.ownsRow B 5 1 v bs.length (bcells bs)) (hl : bs.length ≤ 500000) (hb : ∀ x ∈ bs, x < 256) : ∃ a c, v = .slice a bs.length c ∧ bs.length ≤ c ∧ BRd w a bs := by
  have hh := h
  rcases h.2 with ⟨rfl, h0⟩ | ⟨g, cap, cur, rfl, _, _, hc, _⟩
  · exact ⟨none, 0, by rw [h0], by omega, by rw [h0]; exact Rw.nil _ _ _, hb⟩
  · refine ⟨_, _, rfl, hc, ⟨by unfold maxLen; omega, fun _ => ⟨g, 0, rfl, fun i hi => ?_⟩⟩, hb⟩
    rw [Nat.zero_add, hh.cellAt i (by omega)]
    simp [bcells, List.getD_eq_getElem?_getD, hi]
/-- An attribute's bytes. -/
def oneB (fl ty : Nat) (bs : List Nat) : List Nat := if 255 < bs.length then [fl + 16, ty, bs.length / 256, bs.length % 256] ++ bs else [fl, ty, bs.length] ++ bs
theorem oneB_length (fl ty : Nat) (bs : List Nat) : (oneB fl ty bs).length ≤ bs.length + 4 := by
  unfold oneB
  split <;> simp
theorem oneB_pos (fl ty : Nat) (bs : List Nat) : 0 < (oneB fl ty bs).length := by
  unfold oneB
  split <;> simp
theorem oneB_lt (fl ty : Nat) (bs : List Nat) (hf : fl < 240) (ht : ty < 256) (hl : bs.length < 65536) (hb : ∀ x ∈ bs, x < 256) : ∀ x ∈ oneB fl ty bs, x < 256 := by
  intro x hx
  unfold oneB at hx
  split at hx
  · simp only [List.cons_append, List.nil_append, List.mem_cons] at hx
    rcases hx with rfl | rfl | rfl | rfl | hx
    · omega
    · omega
    · omega
    · omega
    · exact hb x hx
  · simp only [List.cons_append, List.nil_append, List.mem_cons] at hx
    rcases hx with rfl | rfl | rfl | hx
    · omega
    · omega
    · omega
    · exact hb x hx
section
attribute [local go_sem ↓] kept_append
set_option maxHeartbeats 1600000 in
theorem one_any (fl ty : Nat) (a : Option Addr) (c : Nat) (bs : List Nat) (w : World) (hf : fl < 240) (ht : ty < 256) (hl : bs.length ≤ 60000) (h : BRd w a bs) :
    Calls Tryd.prog 32 #[.int .i64 (fl : Int), .int .i64 (ty : Int), .slice a bs.length c] w fun e w' => ∃ v, e = .returned v ∧ w'.ownsRow w.heap.size 5 1 v (oneB fl ty bs).length (bcells (oneB fl ty bs)) ∧ Below w.heap.size w w' := by
  have HE := hide (show oneB fl ty bs = if 255 < bs.length then [fl + 16, ty, bs.length / 256, bs.length % 256] ++ bs else [fl, ty, bs.length] ++ bs from rfl)
  generalize oneB fl ty bs = ob at *
  have hb0 : ∀ cur : Array Value, Below w.heap.size w (w.alloc (.cells cur 5)) := fun cur => (Below.refl _ _).alloc (Nat.le_refl _) _
  by_cases h255 : 255 < bs.length
  · have HE2 : Hid (ob = [fl + 16, ty, bs.length / 256, bs.length % 256] ++ bs) := by show ob = _; rw [HE.out, if_pos h255]
    have hm : ∀ cur : Array Value, cur = #[.int .u8 (((fl + 16 : Nat)) : Int), .int .u8 (ty : Int), .int .u8 ((bs.length / 256 : Nat) : Int), .int .u8 ((bs.length % 256 : Nat) : Int)] → (w.alloc (.cells cur 5)).ownsRow w.heap.size 5 1 (.slice (some ⟨w.heap.size, 0, none⟩) 4 4) 4 (bcells [fl + 16, ty, bs.length / 256, bs.length % 256]) := fun cur e => by
      subst e
      exact ⟨rfl, .inr ⟨w.heap.size, 4, _, rfl, Nat.le_refl _, by unfold World.alloc; exact Array.getElem?_push_size, Nat.le_refl _, by unfold maxLen; omega, rfl, rfl⟩⟩
    obtain ⟨v', w', hr, ho, hb⟩ := app_brd bs a c rfl (hm #[.int .u8 ((fl : Int) + 16), .int .u8 (ty : Int), .int .u8 ((bs.length : Int) / 256), .int .u8 ((bs.length : Int) % 256)] (by simp)) (hb0 _).size (by simp; omega) (h.below (hb0 _))
    have HR := hide hr
    rw [← HE2.out] at ho
    have HO := hide ho
    have HB := hide ((hb0 _).trans hb)
    clear hr ho hb hm h HE HE2
    generalize bs.length = n at *
    have i255 : (255 : Int) < (n : Int) := by omega
    go_enter Tryd.func32, Tryd.ntmps32
    go_wp2_with fail
    refine kept_append_intro _ _ _ _ v' (w' := w') (by rfl) (by rfl) (by exact HR.out) ?_
    go_wp2
    go_ret
    exact ⟨_, rfl, HO.out, HB.out⟩
  · have HE2 : Hid (ob = [fl, ty, bs.length] ++ bs) := by show ob = _; rw [HE.out, if_neg h255]
    have hm : (w.alloc (.cells #[.int .u8 (fl : Int), .int .u8 (ty : Int), .int .u8 (bs.length : Int)] 5)).ownsRow w.heap.size 5 1 (.slice (some ⟨w.heap.size, 0, none⟩) 3 3) 3 (bcells [fl, ty, bs.length]) :=
      ⟨rfl, .inr ⟨w.heap.size, 3, _, rfl, Nat.le_refl _, by unfold World.alloc; exact Array.getElem?_push_size, Nat.le_refl _, by unfold maxLen; omega, rfl, rfl⟩⟩
    obtain ⟨v', w', hr, ho, hb⟩ := app_brd bs a c rfl hm (hb0 _).size (by simp; omega) (h.below (hb0 _))
    have HR := hide hr
    rw [← HE2.out] at ho
    have HO := hide ho
    have HB := hide ((hb0 _).trans hb)
    clear hr ho hb hm h HE HE2
    generalize bs.length = n at *
    have i255 : decide ((255 : Int) < (n : Int)) = false := decide_eq_false (by omega)
    go_enter Tryd.func32, Tryd.ntmps32
    go_wp2_with fail
    refine kept_append_intro _ _ _ _ v' (w' := w') (by rfl) (by rfl) (by exact HR.out) ?_
    go_wp2
    go_ret
    exact ⟨_, rfl, HO.out, HB.out⟩
end
end Go.Proofs.YtcbdegggilnphaaDoor
/- Attributes as bytes, in plain numbers; one attribute more behind a row of bytes. -/
namespace Go.Proofs.YtcbdegggilnphaaDoor
open Go.RowKit
set_option maxRecDepth 100000

/-- The bytes of the Raws below 8. -/
def encLo : List (Int × Int × List Nat) → List Nat
  | [] => []
  | r :: l => (if r.2.1 < 8 then oneB r.1.toNat r.2.1.toNat r.2.2 else []) ++ encLo l
theorem encLo_snoc (l : List (Int × Int × List Nat)) (r : Int × Int × List Nat) : encLo (l ++ [r]) = encLo l ++ (if r.2.1 < 8 then oneB r.1.toNat r.2.1.toNat r.2.2 else []) := by
  induction l with
  | nil => simp [encLo]
  | cons a l ih => simp only [List.cons_append, encLo, ih, List.append_assoc]
/-- The bytes of the Raws above 8. -/
def encHi : List (Int × Int × List Nat) → List Nat
  | [] => []
  | r :: l => (if 8 < r.2.1 then oneB r.1.toNat r.2.1.toNat r.2.2 else []) ++ encHi l
theorem encHi_snoc (l : List (Int × Int × List Nat)) (r : Int × Int × List Nat) : encHi (l ++ [r]) = encHi l ++ (if 8 < r.2.1 then oneB r.1.toNat r.2.1.toNat r.2.2 else []) := by
  induction l with
  | nil => simp [encHi]
  | cons a l ih => simp only [List.cons_append, encHi, ih, List.append_assoc]
theorem encLo_length (l : List (Int × Int × List Nat)) : (encLo l).length ≤ sumR l + 4 * l.length := by
  induction l with
  | nil => simp [encLo]
  | cons a l ih =>
    simp only [encLo, List.length_append, sumR, List.length_cons]
    have := oneB_length a.1.toNat a.2.1.toNat a.2.2
    split <;> simp <;> omega
theorem encHi_length (l : List (Int × Int × List Nat)) : (encHi l).length ≤ sumR l + 4 * l.length := by
  induction l with
  | nil => simp [encHi]
  | cons a l ih =>
    simp only [encHi, List.length_append, sumR, List.length_cons]
    have := oneB_length a.1.toNat a.2.1.toNat a.2.2
    split <;> simp <;> omega
/-- The bytes of communities. -/
def encC (cs : List Nat) : List Nat := nums (cs.map fun (x : Nat) => (x : Int))
theorem encC_snoc (l : List Nat) (x : Nat) : encC (l ++ [x]) = encC l ++ b4 (x : Int) := by
  unfold encC
  rw [List.map_append, List.map_cons, List.map_nil, nums_snoc]
theorem encC_length (l : List Nat) : (encC l).length = 4 * l.length := by
  unfold encC
  rw [nums_length, List.length_map]
theorem b4_lt (z : Int) : ∀ x ∈ b4 z, x < 256 := by
  intro x hx
  unfold b4 at hx
  obtain ⟨k, _, rfl⟩ := List.mem_map.1 hx
  unfold byteAt; omega
theorem nums_small (l : List Int) : ∀ x ∈ nums l, x < 256 := by
  induction l with
  | nil => simp [nums]
  | cons z l ih =>
    intro x hx
    rw [nums, List.mem_append] at hx
    rcases hx with hx | hx
    · exact b4_lt z x hx
    · exact ih x hx
theorem encSegs_small (l : List (Bool × List Int)) (hl : ∀ s ∈ l, s.2.length ≤ 255) : ∀ x ∈ encSegs l, x < 256 := by
  induction l with
  | nil => simp [encSegs]
  | cons s l ih =>
    intro x hx
    rw [encSegs, List.mem_append] at hx
    rcases hx with hx | hx
    · unfold encSeg at hx
      rw [List.mem_append] at hx
      rcases hx with hx | hx
      · have := hl s (by simp)
        simp only [List.mem_cons, List.not_mem_nil, or_false] at hx
        rcases hx with rfl | rfl
        · unfold kindOf; split <;> omega
        · omega
      · exact nums_small _ x hx
    · exact ih (fun s hs => hl s (List.mem_cons_of_mem _ hs)) x hx
/-- The bytes of ORIGIN, AS_PATH and NEXT_HOP. -/
def enc123 (a : At) : List Nat := oneB 64 1 [a.origin.toNat] ++ oneB 64 2 (encSegs a.path) ++ oneB 64 3 (b4 (a.next : Int))
/-- The bytes of MULTI_EXIT_DISC and LOCAL_PREF. -/
def enc45 (a : At) : List Nat := (if 0 ≤ a.med then oneB 128 4 (b4 a.med) else []) ++ (if 0 ≤ a.pref then oneB 64 5 (b4 a.pref) else [])
/-- The bytes of COMMUNITIES. -/
def enc8 (a : At) : List Nat := if 0 < a.comms.length then oneB 192 8 (encC a.comms) else []
/-- The bytes of attributes. -/
def encA (a : At) : List Nat := if goodA a then enc123 a ++ enc45 a ++ encLo a.raws ++ enc8 a ++ encHi a.raws else []
theorem rawsUp_all {rs : List (Int × Int × List Nat)} : ∀ n, rawsUp rs n = true → ∀ i, i < n → rawK (rs.getD i (0, 0, [])) = true
  | 0, _, i, hi => absurd hi (by omega)
  | n + 1, h, i, hi => by
    rw [rawsUp, Bool.and_eq_true, Bool.and_eq_true] at h
    by_cases e : i = n
    · subst e; exact h.1.2
    · exact rawsUp_all n h.1.1 i (by omega)
theorem rawK_nat {r : Int × Int × List Nat} (h : rawK r = true) : ∃ fl ty : Nat, r.1 = (fl : Int) ∧ r.2.1 = (ty : Int) ∧ fl < 240 ∧ 6 ≤ ty ∧ ty < 256 ∧ ty ≠ 8 ∧ r.2.2.length ≤ 255 := by
  have h9 := of_decide_eq_true h
  refine ⟨r.1.toNat, r.2.1.toNat, ?_, ?_, ?_, ?_, ?_, ?_, ?_⟩ <;> omega
/-- One attribute more. -/
theorem add_one (wB wq : World) (v : Value) (bs : List Nat) (fl ty : Nat) (a : Option Addr) (c : Nat) (ds : List Nat) (ho : wq.ownsRow wB.heap.size 5 1 v bs.length (bcells bs)) (hp : 0 < bs.length) (hb : Below wB.heap.size wB wq) (hd : BRd wq a ds) (hf : fl < 240) (ht : ty < 256) (hl : ds.length ≤ 10000) (hbl : bs.length ≤ 300000) :
    Calls Tryd.prog 32 #[.int .i64 (fl : Int), .int .i64 (ty : Int), .slice a ds.length c] wq fun e w2 => ∃ v2 v3 w3, e = .returned v2 ∧ (Builtin.append_ #[30, 30] 30 #[v, v2]).run Tryd.prog w2 = .ok v3 w3 ∧ w3.ownsRow wB.heap.size 5 1 v3 (bs ++ oneB fl ty ds).length (bcells (bs ++ oneB fl ty ds)) ∧ Below wB.heap.size wB w3 ∧ Below wq.heap.size wq w2 := by
  refine (one_any fl ty a c ds wq hf ht (by omega) hd).mono ?_
  rintro e w2 ⟨v2, rfl, ho2, hb2⟩
  have hol := oneB_length fl ty ds
  obtain ⟨a2, c2, rfl, _, hbr⟩ := own_brd ho2 (by omega) (oneB_lt fl ty ds hf ht (by omega) hd.2)
  have hov := own_later ho hb2
  obtain ⟨g, k, rfl, _, _⟩ := hov.form hp
  obtain ⟨v3, w3, hr, ho3, hb3⟩ := app_brd (oneB fl ty ds) a2 c2 rfl hov (Nat.le_trans hb.size hb2.size) (by omega) hbr
  exact ⟨_, v3, w3, rfl, hr, ho3, (hb.trans (hb2.mono hb.size)).trans hb3, hb2⟩
/-- Four's row, read. -/
theorem four_brd (v : Nat) (w : World) : BRd (w.alloc (.cells (bcells ((List.range 4).map (byteAt v))).toArray 5)) (some ⟨w.heap.size, 0, none⟩) (b4 (v : Int)) := by
  have e : b4 (v : Int) = (List.range 4).map (byteAt v) := by unfold b4; rw [Int.toNat_natCast]
  refine ⟨⟨by rw [b4_length]; unfold maxLen; omega, fun _ => ⟨w.heap.size, 0, rfl, fun i hi => ?_⟩⟩, b4_lt _⟩
  rw [Nat.zero_add, World.cell?_alloc_mark, e]
  rw [e] at hi
  generalize (List.range 4).map (byteAt v) = l at *
  simp [bcells, List.getD_eq_getElem?_getD, hi]
end Go.Proofs.YtcbdegggilnphaaDoor
