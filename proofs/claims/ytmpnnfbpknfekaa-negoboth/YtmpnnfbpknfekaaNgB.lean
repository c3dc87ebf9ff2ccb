/- What is wrong first with an OPEN: the program's and the document's. -/
import Derived.Test.YtmpnnfbpknfekaaNgA
import Derived.Test.YtmpnnfbpknfekaaAtSn
namespace Go.Proofs.Ytmpnnfbpknfekaa
open Go.RowKit
set_option maxRecDepth 100000

/-- What is wrong first: the Sub, or 0. -/
def chkN (c : Cf) (pa : Int) (o : Opn) : Int := if o.four = false then 7 else if o.asn ≠ pa then 2 else if o.id = 0 ∨ o.id = c.id then 3 else if o.hold = 1 ∨ o.hold = 2 then 6 else 0
/-- The four bytes of any number. -/
def by4i (a : Int) : List Nat := [(a / 16777216 % 256).toNat, (a / 65536 % 256).toNat, (a / 256 % 256).toNat, (a % 256).toNat]
/-- The Data beside it. -/
def chkD (c : Cf) (o : Opn) : List Nat := if o.four = false then 65 :: 4 :: by4i c.asn else []
theorem cells4 (a : Int) : (bcells (by4i a)).toArray = #[.int .u8 (a / 16777216 % 256), .int .u8 (a / 65536 % 256), .int .u8 (a / 256 % 256), .int .u8 (a % 256)] := by
  have e0 : ((a / 16777216 % 256).toNat : Int) = a / 16777216 % 256 := by omega
  have e1 : ((a / 65536 % 256).toNat : Int) = a / 65536 % 256 := by omega
  have e2 : ((a / 256 % 256).toNat : Int) = a / 256 % 256 := by omega
  have e3 : ((a % 256).toNat : Int) = a % 256 := by omega
  simp [bcells, by4i, e0, e1, e2, e3]
theorem cells6 (a : Int) : (bcells (65 :: 4 :: by4i a)).toArray = #[.int .u8 65, .int .u8 4, .int .u8 (a / 16777216 % 256), .int .u8 (a / 65536 % 256), .int .u8 (a / 256 % 256), .int .u8 (a % 256)] := by
  have e0 : ((a / 16777216 % 256).toNat : Int) = a / 16777216 % 256 := by omega
  have e1 : ((a / 65536 % 256).toNat : Int) = a / 65536 % 256 := by omega
  have e2 : ((a / 256 % 256).toNat : Int) = a / 256 % 256 := by omega
  have e3 : ((a % 256).toNat : Int) = a % 256 := by omega
  simp [bcells, by4i, e0, e1, e2, e3]
theorem by4i_lt (a : Int) : ∀ x ∈ by4i a, x < 256 := by
  intro x hx
  simp only [by4i, List.mem_cons, List.not_mem_nil, or_false] at hx
  rcases hx with rfl | rfl | rfl | rfl <;> omega
theorem six_lt (a : Int) : ∀ x ∈ 65 :: 4 :: by4i a, x < 256 := by
  intro x hx
  simp only [List.mem_cons] at hx
  rcases hx with rfl | rfl | h
  · omega
  · omega
  · exact by4i_lt a x (by simpa using h)
/-- A row of bytes that has just been made. -/
theorem brd_made (w : World) (bs : List Nat) (C : Array Value) (hC : (bcells bs).toArray = C) (hl : bs.length ≤ 1000) (hb : ∀ x ∈ bs, x < 256) : BRd (w.alloc (.cells C 5)) (some ⟨w.heap.size, 0, none⟩) bs := by
  refine ⟨⟨by unfold maxLen; omega, fun _ => ⟨w.heap.size, 0, rfl, fun i hi => ?_⟩⟩, hb⟩
  subst hC
  simp [go_sem, bcells, hi]
/-- Check's answer. -/
def ChkIs (w : World) (e : Ending) (c : Cf) (pa : Int) (o : Opn) : Prop := ∃ a9 c9, e = .returned (.agg #[.int .i64 (if chkN c pa o = 0 then 0 else 2), .int .i64 (chkN c pa o), .slice a9 (chkD c o).length c9]) ∧ BRd w a9 (chkD c o)
set_option maxHeartbeats 1600000 in
theorem prefuse_any (s : Int) (a : Option Addr) (n k : Nat) (w : World) : Calls Try.prog 16 #[.int .i64 s, .slice a n k] w fun e w' => e = .returned (.agg #[.int .i64 2, .int .i64 s, .slice a n k]) ∧ Below w.heap.size w w' := by
  go_enter Try.func16, Try.ntmps16
  go_wp2
  refine bodyPost_ret (v := .agg #[.int .i64 2, .int .i64 s, .slice a n k]) (by simp [results, Try.results16, go_sem]) rfl ⟨rfl, ?_⟩
  exact (Below.refl _ _).alloc (Nat.le_refl _) _
/-- 41 04 and a number's four bytes, behind one another. -/
theorem app_four (asn : Int) (V : World) : ∃ a9 c9 w3, (Builtin.append_ #[36, 36] 36 #[.slice (some ⟨V.heap.size + 1, 0, none⟩) 2 2, .slice (some ⟨V.heap.size + 1 + 1, 0, none⟩) 4 4]).run Try.prog
      (((V.alloc (.cells #[.int .i64 0, .int .i64 0, .slice none 0 0] 38)).alloc (.cells #[.int .u8 65, .int .u8 4] 5)).alloc (.cells #[.int .u8 (asn / 16777216 % 256), .int .u8 (asn / 65536 % 256), .int .u8 (asn / 256 % 256), .int .u8 (asn % 256)] 5)) = .ok (.slice a9 6 c9) w3 ∧
      w3.ownsRow (V.heap.size + 1) 5 1 (.slice a9 6 c9) 6 (bcells (65 :: 4 :: by4i asn)) ∧ Below V.heap.size V w3 ∧ V.heap.size < w3.heap.size ∧
      w3.cell? ⟨V.heap.size, 0, none⟩ = some (.int .i64 0) ∧ w3.cell? ⟨V.heap.size, 1, none⟩ = some (.int .i64 0) ∧ w3.cell? ⟨V.heap.size, 2, none⟩ = some (.slice none 0 0) ∧
      w3.frozen? ⟨V.heap.size, 0, none⟩ = false ∧ w3.frozen? ⟨V.heap.size, 1, none⟩ = false ∧ w3.frozen? ⟨V.heap.size, 2, none⟩ = false := by
  obtain ⟨w1, hw1⟩ : ∃ w1, w1 = V.alloc (.cells #[.int .i64 0, .int .i64 0, .slice none 0 0] 38) := ⟨_, rfl⟩
  have hb1 : Below V.heap.size V w1 := by rw [hw1]; exact (Below.refl _ _).alloc (Nat.le_refl _) _
  have hs1 : w1.heap.size = V.heap.size + 1 := by rw [hw1]; simp
  obtain ⟨w2, hw2⟩ : ∃ w2, w2 = w1.alloc (.cells #[.int .u8 65, .int .u8 4] 5) := ⟨_, rfl⟩
  have hb2 : Below w1.heap.size w1 w2 := by rw [hw2]; exact (Below.refl _ _).alloc (Nat.le_refl _) _
  have hs2 : w2.heap.size = w1.heap.size + 1 := by rw [hw2]; simp
  obtain ⟨w4, hw4⟩ : ∃ w4, w4 = w2.alloc (.cells #[.int .u8 (asn / 16777216 % 256), .int .u8 (asn / 65536 % 256), .int .u8 (asn / 256 % 256), .int .u8 (asn % 256)] 5) := ⟨_, rfl⟩
  have hb4 : Below w2.heap.size w2 w4 := by rw [hw4]; exact (Below.refl _ _).alloc (Nat.le_refl _) _
  have hm2 : w2.ownsRow w1.heap.size 5 1 (.slice (some ⟨w1.heap.size, 0, none⟩) 2 2) 2 (bcells [65, 4]) := by
    rw [hw2]
    exact ⟨rfl, .inr ⟨w1.heap.size, 2, _, rfl, Nat.le_refl _, by unfold World.alloc; exact Array.getElem?_push_size, Nat.le_refl _, by unfold maxLen; omega, rfl, rfl⟩⟩
  have hm : w4.ownsRow w1.heap.size 5 1 (.slice (some ⟨w1.heap.size, 0, none⟩) 2 2) 2 (bcells [65, 4]) := own_later hm2 hb4
  have hr4 : BRd w4 (some ⟨w2.heap.size, 0, none⟩) (by4i asn) := by rw [hw4]; exact brd_made w2 _ _ (cells4 asn) (by simp [by4i]) (by4i_lt asn)
  have hz4 := hb4.size
  obtain ⟨v', w3, hr, ho, hb3⟩ := app_brd (n := 2) (ys := [65, 4]) (by4i asn) (some ⟨w2.heap.size, 0, none⟩) 4 rfl hm (by omega) (by simp [by4i]) hr4
  obtain ⟨a9, c9, rfl⟩ := own_shape ho
  have hlen : (([65, 4] : List Nat) ++ by4i asn).length = 6 := rfl
  have hlen4 : (by4i asn).length = 4 := rfl
  rw [hlen] at hr ho
  rw [hlen4] at hr
  have hb13 : Below w1.heap.size w1 w3 := (hb2.trans (hb4.mono (by omega))).trans hb3
  have hz3 := hb13.size
  refine ⟨a9, c9, w3, ?_, ?_, hb1.trans (hb13.mono (by omega)), by omega, ?_, ?_, ?_, ?_, ?_, ?_⟩
  · rw [hs2, hs1, hw4, hw2, hw1] at hr
    exact hr
  · rw [← hs1]; exact ho
  · rw [hb13.cell (p := ⟨V.heap.size, 0, none⟩) (by show V.heap.size < _; omega), hw1]; simp [go_sem]
  · rw [hb13.cell (p := ⟨V.heap.size, 1, none⟩) (by show V.heap.size < _; omega), hw1]; simp [go_sem]
  · rw [hb13.cell (p := ⟨V.heap.size, 2, none⟩) (by show V.heap.size < _; omega), hw1]; simp [go_sem]
  · rw [hb13.frozen (p := ⟨V.heap.size, 0, none⟩) (by show V.heap.size < _; omega), hw1]; simp [go_sem]
  · rw [hb13.frozen (p := ⟨V.heap.size, 1, none⟩) (by show V.heap.size < _; omega), hw1]; simp [go_sem]
  · rw [hb13.frozen (p := ⟨V.heap.size, 2, none⟩) (by show V.heap.size < _; omega), hw1]; simp [go_sem]
theorem ChkIs.four {w : World} {c : Cf} {pa : Int} {o : Opn} {a9 : Option Addr} {c9 : Nat} (h : o.four = false) (hb : BRd w a9 (65 :: 4 :: by4i c.asn)) : ChkIs w (.returned (.agg #[.int .i64 2, .int .i64 7, .slice a9 6 c9])) c pa o := by
  have hN : chkN c pa o = 7 := by unfold chkN; rw [if_pos h]
  have hD : chkD c o = 65 :: 4 :: by4i c.asn := by unfold chkD; rw [if_pos h]
  unfold ChkIs
  rw [hN, hD]
  exact ⟨a9, c9, rfl, hb⟩
theorem ChkIs.none {w : World} {c : Cf} {pa : Int} {o : Opn} (k : Int) (hk : chkN c pa o = k) (h : o.four = true) : ChkIs w (.returned (.agg #[.int .i64 (if k = 0 then 0 else 2), .int .i64 k, .slice none 0 0])) c pa o := by
  have hD : chkD c o = [] := by unfold chkD; rw [if_neg (by simp [h])]
  unfold ChkIs
  rw [hk, hD]
  exact ⟨Option.none, 0, rfl, Rw.nil _ _ _, by simp⟩
theorem ChkIs.below {w w' : World} {e : Ending} {c : Cf} {pa : Int} {o : Opn} (h : ChkIs w e c pa o) (hb : Below w.heap.size w w') : ChkIs w' e c pa o := by
  obtain ⟨a, k, e1, h1⟩ := h
  exact ⟨a, k, e1, h1.below hb⟩
section
attribute [local go_sem ↓] kept_append
set_option maxHeartbeats 1600000 in
theorem rcheck_four (c : Cf) (n pa : Int) (ia : Option Addr) (il ic : Nat) (oa : Option Addr) (ol oc : Nat) (o : Opn) (w : World) (h : o.four = false) :
    Calls Try.prog 12 #[cfV c, pcV n pa ia il ic oa ol oc, opV o] w fun e w' => ChkIs w' e c pa o ∧ Below w.heap.size w w' := by
  obtain ⟨asn, id, next, hold, gr, ll, stale, dfr⟩ := c
  obtain ⟨oa', oh, oi, o0, o1, o2, o3, o4, o5, o6, o7, o8⟩ := o
  simp only at h
  subst h
  simp only [cfV, opV, pcV]
  go_enter Try.func12, Try.ntmps12
  go_wp2_with fail
  refine (rfour_n _ _).mono ?_
  rintro e w1 ⟨rfl, rfl⟩
  generalize hV : (((w.alloc _).alloc _).alloc _) = V
  have hs : V.heap.size = w.heap.size + 1 + 1 + 1 := by rw [← hV]; simp
  have hbV : Below w.heap.size w V := by rw [← hV]; exact (below_two _ _ _).alloc (by simp; omega) _
  obtain ⟨a9, c9, w3, hr, ho, hb, hz, r0, r1, r2, f0, f1, f2⟩ := app_four asn V
  rw [hs] at hr ho hz r0 r1 r2 f0 f1 f2
  have HR := hide hr
  have HO := hide ho
  have HB : Hid (Below w.heap.size w w3) := hbV.trans (hb.mono (by rw [hs]; omega))
  clear hr ho hb hbV
  go_wp2_with (refine kept_append_intro _ _ _ _ (.slice a9 6 c9) (w' := w3) (by rfl) (by rfl) (by exact HR.out) ?_)
  refine bodyPost_ret (v := .agg #[.int .i64 2, .int .i64 7, .slice a9 6 c9]) (by simp [results, Try.results12, go_sem, r0, r1, r2]) rfl ⟨ChkIs.four rfl ?_, ?_⟩
  · have ho := own_under (X := w.heap.size + 1 + 1 + 1) (own_under (X := w.heap.size + 1 + 1 + 1) (own_under (X := w.heap.size + 1 + 1 + 1) HO.out (by omega) 0 (.int .i64 2)) (by omega) 1 (.int .i64 7)) (by omega) 2 (.slice a9 6 c9)
    obtain ⟨a8, c8, e8, _, hb⟩ := own_brd (bs := 65 :: 4 :: by4i asn) ho (by simp [by4i]) (six_lt asn)
    cases e8
    exact hb
  · exact ((HB.out.setCell (by simp; omega) _).setCell (by simp; omega) _).setCell (by simp; omega) _
end
set_option maxHeartbeats 1600000 in
theorem rcheck_any (c : Cf) (n pa : Int) (ia : Option Addr) (il ic : Nat) (oa : Option Addr) (ol oc : Nat) (o : Opn) (w : World) :
    Calls Try.prog 12 #[cfV c, pcV n pa ia il ic oa ol oc, opV o] w fun e w' => ChkIs w' e c pa o ∧ Below w.heap.size w w' := by
  by_cases h : o.four = false
  · exact rcheck_four c n pa ia il ic oa ol oc o w h
  have h4 : o.four = true := by simpa using h
  have K : ∀ k : Int, chkN c pa o = k → ∀ w', ChkIs w' (.returned (.agg #[.int .i64 (if k = 0 then 0 else 2), .int .i64 k, .slice none 0 0])) c pa o := fun k hk w' => ChkIs.none k hk h4
  unfold chkN at K
  rw [if_neg h] at K
  obtain ⟨asn, id, next, hold, gr, ll, stale, dfr⟩ := c
  obtain ⟨oa', oh, oi, o0, o1, o2, o3, o4, o5, o6, o7, o8⟩ := o
  simp only at h4 K
  subst h4
  clear h
  have hb : ∀ (w : World) o p q r, Below w.heap.size w ((((w.alloc o).alloc p).alloc q).alloc r) := fun w o p q r => ((below_two w o p).alloc (by simp; omega) q).alloc (by simp; omega) r
  by_cases h1 : oa' = pa
  · rw [if_neg (by simp [h1])] at K
    by_cases h2 : oi = 0 ∨ oi = id
    · rw [if_pos h2] at K
      have HK := hide (K 3 rfl)
      clear K
      simp only [cfV, opV, pcV]
      subst h1
      by_cases h3 : oi = 0
      · subst h3
        clear h2
        go_enter Try.func12, Try.ntmps12
        go_wp2
        refine bodyPost_ret (v := .agg #[.int .i64 2, .int .i64 3, .slice none 0 0]) (by simp [results, Try.results12, go_sem]) rfl ⟨HK.out _, hb _ _ _ _ _⟩
      · have h5 : oi = id := by omega
        subst h5
        have h6 : ((oi : Int) == 0) = false := by simp; omega
        have h7 : ¬ (oi : Int) = 0 := by omega
        clear h2
        go_enter Try.func12, Try.ntmps12
        go_wp2
        refine bodyPost_ret (v := .agg #[.int .i64 2, .int .i64 3, .slice none 0 0]) (by simp [results, Try.results12, go_sem]) rfl ⟨HK.out _, hb _ _ _ _ _⟩
    · rw [if_neg h2] at K
      have h6 : ((oi : Int) == 0) = false := by simp; omega
      have h7 : ¬ (oi : Int) = 0 := by omega
      have h8 : ((oi : Int) == (id : Int)) = false := by simp; omega
      have h9 : ¬ (oi : Int) = (id : Int) := by omega
      have h10 : ¬ oi = 0 := by omega
      have h11 : ¬ oi = id := by omega
      clear h2
      subst h1
      by_cases h3 : oh = 1 ∨ oh = 2
      · rw [if_pos h3] at K
        have HK := hide (K 6 rfl)
        clear K
        simp only [cfV, opV, pcV]
        rcases h3 with rfl | rfl
        · go_enter Try.func12, Try.ntmps12
          go_wp2
          refine bodyPost_ret (v := .agg #[.int .i64 2, .int .i64 6, .slice none 0 0]) (by simp [results, Try.results12, go_sem]) rfl ⟨HK.out _, hb _ _ _ _ _⟩
        · go_enter Try.func12, Try.ntmps12
          go_wp2
          refine bodyPost_ret (v := .agg #[.int .i64 2, .int .i64 6, .slice none 0 0]) (by simp [results, Try.results12, go_sem]) rfl ⟨HK.out _, hb _ _ _ _ _⟩
      · rw [if_neg h3] at K
        have HK := hide (K 0 rfl)
        clear K
        simp only [cfV, opV, pcV]
        have h12 : ¬ oh = 1 := by omega
        have h13 : ¬ oh = 2 := by omega
        have h14 : (oh == 1) = false := by simp; omega
        have h15 : (oh == 2) = false := by simp; omega
        clear h3
        go_enter Try.func12, Try.ntmps12
        go_wp2
        refine bodyPost_ret (v := .agg #[.int .i64 0, .int .i64 0, .slice none 0 0]) (by simp [results, Try.results12, go_sem]) rfl ⟨HK.out _, hb _ _ _ _ _⟩
  · rw [if_pos h1] at K
    have HK := hide (K 2 rfl)
    clear K
    simp only [cfV, opV, pcV]
    have h2 : (oa' != pa) = true := by simpa using h1
    go_enter Try.func12, Try.ntmps12
    go_wp2
    refine bodyPost_ret (v := .agg #[.int .i64 2, .int .i64 2, .slice none 0 0]) (by simp [results, Try.results12, go_sem]) rfl ⟨HK.out _, hb _ _ _ _ _⟩
end Go.Proofs.Ytmpnnfbpknfekaa
