/- The program's All: the prefixes in order. -/
import Derived.Test.YtfecknbneonidaaTrQ
import Derived.Test.YtfecknbneonidaaPfxAp
import Derived.StillTailTactics
namespace Go.Proofs.Ytfecknbneonidaa
open Go.RowKit
set_option maxRecDepth 100000

theorem kid_or {a n s : Nat} (h : Key a n) (hn : n < 32) (hs : s < 2) : a ||| s * 2 ^ (31 - n) = kid a n s := by
  have hc := h.2.1
  unfold kid cutTo at *
  generalize a / 2 ^ (32 - n) = q at hc
  subst hc
  have h1 : s * 2 ^ (31 - n) < 2 ^ (32 - n) := by
    rw [show 32 - n = (31 - n) + 1 from by omega, Nat.pow_succ, Nat.mul_comm]
    exact Nat.mul_lt_mul_of_pos_left hs (Nat.two_pow_pos _)
  rw [Nat.mul_comm q, Nat.two_pow_add_eq_or_of_lt h1]
theorem longer_val {a n s : Nat} (h : Key a n) (hn : n < 32) (hs : s < 2) : bits .or .u32 (a : Int) ((s : Int) * 2 ^ (31 - n) % 4294967296) = ((kid a n s : Nat) : Int) := by
  have h1 : s * 2 ^ (31 - n) < 4294967296 := by
    have h2 := (kid_facts h hn hs).2.2.2
    unfold kid at h2
    omega
  have e2 : (s : Int) * 2 ^ (31 - n) = ((s * 2 ^ (31 - n) : Nat) : Int) := by simp
  rw [e2, Int.emod_eq_of_lt (Int.natCast_nonneg _) (by omega), u32_or_nat a _ h.2.2 h1, kid_or h hn hs]
set_option maxHeartbeats 800000 in
theorem longer_any (a n s : Nat) (w : World) (h : Key a n) (hn : n < 32) (hs : s < 2) : Calls Try.prog 29 #[pfx a n, .int .i64 (s : Int)] w fun e w' => e = .returned (pfx (kid a n s) (n + 1 : Nat)) ∧ Below w.heap.size w w' := by
  have HV := hide (longer_val h hn hs)
  have hni : (n : Int) < 32 := by omega
  have hsi : (s : Int) < 2 := by omega
  clear h
  unfold pfx
  go_enter Try.func29, Try.ntmps29
  have HB : Hid (Below w.heap.size w ((w.alloc (.cells #[.int .u32 (a : Int), .int .i64 (n : Int)] 31)).alloc (.cells #[.int .u32 0, .int .i64 0] 31))) := ((Below.refl _ _).alloc (Nat.le_refl _) _).alloc (by simp) _
  have c0 : ((w.alloc (.cells #[.int .u32 (a : Int), .int .i64 (n : Int)] 31)).alloc (.cells #[.int .u32 0, .int .i64 0] 31)).cell? ⟨w.heap.size, 0, none⟩ = some (.int .u32 (a : Int)) := by simp [go_sem]
  have c1 : ((w.alloc (.cells #[.int .u32 (a : Int), .int .i64 (n : Int)] 31)).alloc (.cells #[.int .u32 0, .int .i64 0] 31)).cell? ⟨w.heap.size, 1, none⟩ = some (.int .i64 (n : Int)) := by simp [go_sem]
  have d0 : ((w.alloc (.cells #[.int .u32 (a : Int), .int .i64 (n : Int)] 31)).alloc (.cells #[.int .u32 0, .int .i64 0] 31)).cell? ⟨w.heap.size + 1, 0, none⟩ = some (.int .u32 0) := by simp [go_sem]
  have d1 : ((w.alloc (.cells #[.int .u32 (a : Int), .int .i64 (n : Int)] 31)).alloc (.cells #[.int .u32 0, .int .i64 0] 31)).cell? ⟨w.heap.size + 1, 1, none⟩ = some (.int .i64 0) := by simp [go_sem]
  have e0 : ((w.alloc (.cells #[.int .u32 (a : Int), .int .i64 (n : Int)] 31)).alloc (.cells #[.int .u32 0, .int .i64 0] 31)).frozen? ⟨w.heap.size + 1, 0, none⟩ = false := by simp [go_sem]
  have e1 : ((w.alloc (.cells #[.int .u32 (a : Int), .int .i64 (n : Int)] 31)).alloc (.cells #[.int .u32 0, .int .i64 0] 31)).frozen? ⟨w.heap.size + 1, 1, none⟩ = false := by simp [go_sem]
  go_wp2_with fail
  generalize ((w.alloc (.cells #[.int .u32 (a : Int), .int .i64 (n : Int)] 31)).alloc (.cells #[.int .u32 0, .int .i64 0] 31)) = wb at *
  have hm : IntKind.i64.wrap (31 - (n : Int)) = ((31 - n : Nat) : Int) := by rw [IntKind.wrap_i64]; omega
  have hm2 : IntKind.u32.wrap (s : Int) = (s : Int) := by rw [IntKind.wrap_u32]; omega
  have hw1 : IntKind.i64.wrap ((n : Int) + 1) = (n : Int) + 1 := by rw [IntKind.wrap_i64]; omega
  go_still_tail 13, (by kernel_rfl)
  show wpList _ _ _ _ _ wb.drew
  have hr : IntKind.u32.wrap ((s : Int) * 2 ^ (31 - n)) = (s : Int) * 2 ^ (31 - n) % 4294967296 := IntKind.wrap_u32 _
  rw [hr, HV.out]
  go_wp2
  exact bodyPost_ret (v := pfx (kid a n s) (n + 1 : Nat)) (by simp [results, Try.results29, go_sem, pfx, d0, d1]) rfl ⟨rfl, ((HB.out.setCell (by simp) _).setCell (by simp) _).drew⟩
/-- The prefixes from a/n on that have something, in order; d: how many bits more there may be. -/
def allC (C : Nat → Nat → Option Int) : Nat → Nat → Nat → List (Nat × Nat)
  | 0, a, n => if (C a n).isSome then [(a, n)] else []
  | d + 1, a, n => (if (C a n).isSome then [(a, n)] else []) ++ (allC C d (kid a n 0) (n + 1) ++ allC C d (kid a n 1) (n + 1))
theorem TrieIs.nothing {w : World} {B : Nat} {N : Nat → Nat → Option Nat} {C : Nat → Nat → Option Int} (h : TrieIs w B N C) : ∀ (d a n : Nat), N a n = none → Key a n → n + d = 32 → allC C d a n = []
  | 0, a, n, hn, _, _ => by simp [allC, h.gone _ _ hn]
  | d + 1, a, n, hn, hk, hd => by
    have none_kid : ∀ s, s < 2 → N (kid a n s) (n + 1) = none := fun s hs => by
      cases e : N (kid a n s) (n + 1) with
      | none => rfl
      | some c =>
        obtain ⟨x, hx⟩ := h.up _ _ _ e
        rw [(kid_facts hk (by omega) hs).2.1, hn] at hx
        cases hx
    rw [allC, h.nothing d _ _ (none_kid 0 (by omega)) (kid_key hk (by omega) (by omega)) (by omega), h.nothing d _ _ (none_kid 1 (by omega)) (kid_key hk (by omega) (by omega)) (by omega), h.gone _ _ hn]
    rfl
/-- What appendAll promises at place x of a/n: the prefixes K stand behind the list. -/
def AppAt (B B0 : Nat) (N : Nat → Nat → Option Nat) (C : Nat → Nat → Option Int) (x a n : Nat) (K : List (Nat × Nat)) : Prop :=
  ∀ (w : World) (v : Value) (ps : List (Nat × Nat)), TrieIs w B N C → w.ownsRow B0 31 2 v ps.length (pcells ps) → B0 ≤ w.heap.size → ps.length + K.length ≤ 100000 →
    Calls Try.prog 25 #[.pointer (some ⟨x, 0, none⟩), v, .agg #[.int .u32 (a : Int), .int .i64 (n : Int)]] w fun e w' => ∃ v', e = .returned v' ∧ w'.ownsRow B0 31 2 v' (ps ++ K).length (pcells (ps ++ K)) ∧ Keeps (fun b => v.ownBlock = some b) w w' ∧ ∀ b, v'.ownBlock = some b → v.ownBlock = some b ∨ w.heap.size ≤ b
/-- A place below: none, or one that has K. -/
def KidAt (B B0 : Nat) (N : Nat → Nat → Option Nat) (C : Nat → Nat → Option Int) (a n : Nat) (y : Option Nat) (K : List (Nat × Nat)) : Prop := (y = none ∧ K = []) ∨ ∃ z, y = some z ∧ AppAt B B0 N C z a n K
def kidsUp (K0 K1 : List (Nat × Nat)) (k : Nat) : List (Nat × Nat) := if k = 0 then [] else if k = 1 then K0 else K0 ++ K1
theorem pcells_app (l r : List (Nat × Nat)) : pcells (l ++ r) = pcells l ++ pcells r := by
  induction l with
  | nil => rfl
  | cons a l ih => simp only [List.cons_append, pcells, ih]
theorem pcells_length (l : List (Nat × Nat)) : (pcells l).length = l.length * 2 := by
  induction l with
  | nil => rfl
  | cons a l ih => simp only [pcells, List.length_cons, ih]; omega
theorem slice_of {w : World} {B e size n : Nat} {v : Value} {xs : List Value} (h : w.ownsRow B e size v n xs) : ∃ a c, v = .slice a n c := by
  rcases h.2 with ⟨rfl, h2⟩ | ⟨g, cap, cur, rfl, _⟩
  · exact ⟨none, 0, by rw [h2]⟩
  · exact ⟨_, _, rfl⟩
theorem own_keep {F : Nat → Prop} {w w' : World} {B e size n : Nat} {v : Value} {xs : List Value} (h : w.ownsRow B e size v n xs) (hk : Keeps F w w') (hn : ∀ b, v.ownBlock = some b → ¬ F b) : w'.ownsRow B e size v n xs := by
  refine ⟨h.1, ?_⟩
  rcases h.2 with hh | ⟨g, cap, cur, e1, hg, hc, rest⟩
  · exact .inl hh
  · refine .inr ⟨g, cap, cur, e1, hg, ?_, rest⟩
    rw [hk.block g (Array.getElem?_eq_some_iff.1 hc).1 (hn g (by rw [e1]; rfl))]
    exact hc
theorem own_lt {w : World} {B e size n : Nat} {v : Value} {xs : List Value} (h : w.ownsRow B e size v n xs) (b : Nat) (hb : v.ownBlock = some b) : B ≤ b ∧ b < w.heap.size := own_block h b hb
theorem run_two0 (p q : Option Addr) (w : World) : (Instr.index 51 (.agg #[.pointer p, .pointer q]) (.int .i64 0)).run Try.prog w = .ok (.pointer p) w := by kernel_rfl
theorem run_two1 (p q : Option Addr) (w : World) : (Instr.index 51 (.agg #[.pointer p, .pointer q]) (.int .i64 1)).run Try.prog w = .ok (.pointer q) w := by kernel_rfl
set_option maxHeartbeats 1600000 in
theorem appall_loop (B B0 : Nat) (N : Nat → Nat → Option Nat) (C : Nat → Nat → Option Int) (x a n : Nat) (K0 K1 : List (Nat × Nat)) (hN : ∀ b, Blk N b → b < B0) (hx : N a n = some x) (hn : n ≤ 32)
    (k0 : KidAt B B0 N C (kid a n 0) (n + 1) (N (kid a n 0) (n + 1)) K0) (k1 : KidAt B B0 N C (kid a n 1) (n + 1) (N (kid a n 1) (n + 1)) K1) :
    AppAt B B0 N C x a n ((if (C a n).isSome then [(a, n)] else []) ++ (K0 ++ K1)) := by
  intro w v ps ht ho hB hlen
  have pl := ht.place _ _ _ hx
  have p0 := pl.c0
  have p1 := pl.c1
  have p2 := pl.c2
  have hxz : x < w.heap.size := pl.lt
  have HKey := hide (ht.key _ _ _ hx)
  clear pl
  have HT := hide ht
  have HO := hide ho
  have HX := hide hx
  have HNB := hide hN
  have HK0 := hide k0
  have HK1 := hide k1
  clear ht ho hx hN k0 k1
  have hidx0 : ∀ (p q : Option Addr) (w : World), (Instr.index 51 (.agg #[.pointer p, .pointer q]) (.int .i64 0)).run Try.prog w = .ok (.pointer p) w := fun p q w => run_two0 p q w
  have hidx1 : ∀ (p q : Option Addr) (w : World), (Instr.index 51 (.agg #[.pointer p, .pointer q]) (.int .i64 1)).run Try.prog w = .ok (.pointer q) w := fun p q w => run_two1 p q w
  obtain ⟨T, hT⟩ : ∃ T, T = ps ++ ((if (C a n).isSome then [(a, n)] else []) ++ (K0 ++ K1)) := ⟨_, rfl⟩
  rw [← hT]
  cases hC : C a n with
  | none =>
    rw [hC] at p2
    simp only [Option.isSome_none] at p2
    have HE : Hid (T = ps ++ (K0 ++ K1)) := by
      show T = _
      rw [hT, hC]; rfl
    have hlen1 : ps.length + K0.length + K1.length ≤ 100000 := by rw [hC] at hlen; simp at hlen ⊢; omega
    clear hC hlen hT
    obtain ⟨ps1, hps⟩ : ∃ z, z = ps := ⟨_, rfl⟩
    rw [← hps] at HE hlen1
    have HK1w : Hid (Keeps (fun b => v.ownBlock = some b) w (w.alloc (.cells #[.int .u32 (a : Int), .int .i64 (n : Int)] 31))) := (Keeps.refl (fun b => v.ownBlock = some b) w).alloc _
    have c0 : (w.alloc (.cells #[.int .u32 (a : Int), .int .i64 (n : Int)] 31)).cell? ⟨w.heap.size, 0, none⟩ = some (.int .u32 (a : Int)) := by simp [go_sem]
    have c1 : (w.alloc (.cells #[.int .u32 (a : Int), .int .i64 (n : Int)] 31)).cell? ⟨w.heap.size, 1, none⟩ = some (.int .i64 (n : Int)) := by simp [go_sem]
    have hz1 : w.heap.size < (w.alloc (.cells #[.int .u32 (a : Int), .int .i64 (n : Int)] 31)).heap.size := by simp
    have q0 := p0
    have q1 := p1
    have HO1 : Hid ((w.alloc (.cells #[.int .u32 (a : Int), .int .i64 (n : Int)] 31)).ownsRow B0 31 2 v (ps1 ++ kidsUp K0 K1 0).length (pcells (ps1 ++ kidsUp K0 K1 0))) := by
      show World.ownsRow _ _ _ _ _ _ _
      rw [show kidsUp K0 K1 0 = [] from rfl, List.append_nil, hps]
      exact HO.out.alloc _
    have HS1 : Hid (∀ b, v.ownBlock = some b → v.ownBlock = some b ∨ w.heap.size < b) := fun b hb => .inl hb
    clear hps
    go_enter Try.func25, Try.ntmps25
    go_wp2
    go_loopw [1, 21] (fun l i wq => ∃ k : Nat, k ≤ 2 ∧ i = .int .i64 k ∧ Hid (wq.ownsRow B0 31 2 l (ps1 ++ kidsUp K0 K1 k).length (pcells (ps1 ++ kidsUp K0 K1 k))) ∧ Hid (Keeps (fun b => v.ownBlock = some b) w wq) ∧ Hid (∀ b, l.ownBlock = some b → v.ownBlock = some b ∨ w.heap.size < b) ∧ w.heap.size < wq.heap.size ∧ wq.cell? ⟨w.heap.size, 0, none⟩ = some (.int .u32 (a : Int)) ∧ wq.cell? ⟨w.heap.size, 1, none⟩ = some (.int .i64 (n : Int))) (fun _ i _ => 2 - (intOf i).toNat)
    case atStart => exact ⟨0, by omega, rfl, HO1, HK1w, HS1, hz1, c0, c1⟩
    case round =>
      clear c0 c1 q0 q1
      obtain ⟨k, hk, rfl, HOl, HK, HS, hz, c0, c1⟩ := hrel
      by_cases k0 : k = 0
      · subst k0
        have HSt : Hid (TrieIs wr B N C) := HT.out.keeps HK.out fun b hb e => by have h1 := HNB.out b hb; have h2 := (own_lt HO.out b e).1; omega
        rcases HK0.out with ⟨hy, hK⟩ | ⟨z, hy, hA⟩
        · have HO9 : Hid (wr.ownsRow B0 31 2 u1 (ps1 ++ kidsUp K0 K1 1).length (pcells (ps1 ++ kidsUp K0 K1 1))) := by
            have e : kidsUp K0 K1 1 = kidsUp K0 K1 0 := by simp [kidsUp, hK]
            rw [e]; exact HOl.out
          clear hK
          rw [hy, adr_none]
          go_wp2
          exact ⟨⟨1, by omega, rfl, HO9, HK, HS, hz, c0, c1⟩, by simp [intOf]⟩
        · have hn32 : n < 32 := by have := (HSt.out.key _ _ _ hy).1; omega
          rw [hy, adr_some]
          have HA := hide hA
          clear hA
          go_wp2_with fail
          refine (longer_any a n 0 _ HKey.out hn32 (by omega)).mono ?_
          rintro e w2 ⟨rfl, hb2⟩
          have HK2 : Hid (Keeps (fun b => v.ownBlock = some b) w w2) := HK.out.trans (Keeps.of_below hb2 (fun b => v.ownBlock = some b)) fun _ _ h => h
          have HSt2 : Hid (TrieIs w2 B N C) := HSt.out.later hb2
          have HO2 := hide (own_later HOl.out hb2)
          have hz2 : w.heap.size < w2.heap.size := Nat.lt_of_lt_of_le hz hb2.size
          have d0 : w2.cell? ⟨w.heap.size, 0, none⟩ = some (.int .u32 (a : Int)) := by rw [hb2.cell (p := ⟨w.heap.size, 0, none⟩) hz]; exact c0
          have d1 : w2.cell? ⟨w.heap.size, 1, none⟩ = some (.int .i64 (n : Int)) := by rw [hb2.cell (p := ⟨w.heap.size, 1, none⟩) hz]; exact c1
          clear hb2 c0 c1
          unfold pfx
          go_wp2_with fail
          refine (HA.out w2 u1 _ HSt2.out HO2.out (by omega) (by rw [List.length_append]; simp [kidsUp]; omega)).mono ?_
          rintro e w3 ⟨v3, rfl, ho3, hk3, hs3⟩
          have HNX : Hid (¬ u1.ownBlock = some w.heap.size) := fun h => by
            rcases HS.out _ h with h | h
            · have := (own_lt HO.out _ h).2; omega
            · omega
          have HO3 : Hid (w3.ownsRow B0 31 2 v3 (ps1 ++ kidsUp K0 K1 1).length (pcells (ps1 ++ kidsUp K0 K1 1))) := by
            have e : ps1 ++ kidsUp K0 K1 1 = ps1 ++ kidsUp K0 K1 0 ++ K0 := by simp [kidsUp]
            rw [e]; exact ho3
          have e0 : w3.cell? ⟨w.heap.size, 0, none⟩ = some (.int .u32 (a : Int)) := by rw [hk3.cell ⟨w.heap.size, 0, none⟩ hz2 HNX.out]; exact d0
          have e1 : w3.cell? ⟨w.heap.size, 1, none⟩ = some (.int .i64 (n : Int)) := by rw [hk3.cell ⟨w.heap.size, 1, none⟩ hz2 HNX.out]; exact d1
          have hz3 : w.heap.size < w3.heap.size := Nat.lt_of_lt_of_le hz2 hk3.size
          have HK3 : Hid (Keeps (fun b => v.ownBlock = some b) w w3) := HK2.out.trans hk3 fun b hb e => by
            rcases HS.out b e with h | h
            · exact h
            · omega
          have HS3 : Hid (∀ b, v3.ownBlock = some b → v.ownBlock = some b ∨ w.heap.size < b) := fun b hb => by
            rcases hs3 b hb with h | h
            · exact HS.out b h
            · right; omega
          clear ho3 hk3 hs3 d0 d1
          go_wp2
          exact ⟨⟨1, by omega, rfl, HO3, HK3, HS3, hz3, e0, e1⟩, by simp [intOf]⟩
      · by_cases k1 : k = 1
        · subst k1
          have HSt : Hid (TrieIs wr B N C) := HT.out.keeps HK.out fun b hb e => by have h1 := HNB.out b hb; have h2 := (own_lt HO.out b e).1; omega
          rcases HK1.out with ⟨hy, hK⟩ | ⟨z, hy, hA⟩
          · have HO9 : Hid (wr.ownsRow B0 31 2 u1 (ps1 ++ kidsUp K0 K1 2).length (pcells (ps1 ++ kidsUp K0 K1 2))) := by
              have e : kidsUp K0 K1 2 = kidsUp K0 K1 1 := by simp [kidsUp, hK]
              rw [e]; exact HOl.out
            clear hK
            rw [hy, adr_none]
            go_wp2
            exact ⟨⟨2, by omega, rfl, HO9, HK, HS, hz, c0, c1⟩, by simp [intOf]⟩
          · have hn32 : n < 32 := by have := (HSt.out.key _ _ _ hy).1; omega
            rw [hy, adr_some]
            have HA := hide hA
            clear hA
            go_wp2_with fail
            refine (longer_any a n 1 _ HKey.out hn32 (by omega)).mono ?_
            rintro e w2 ⟨rfl, hb2⟩
            have HK2 : Hid (Keeps (fun b => v.ownBlock = some b) w w2) := HK.out.trans (Keeps.of_below hb2 (fun b => v.ownBlock = some b)) fun _ _ h => h
            have HSt2 : Hid (TrieIs w2 B N C) := HSt.out.later hb2
            have HO2 := hide (own_later HOl.out hb2)
            have hz2 : w.heap.size < w2.heap.size := Nat.lt_of_lt_of_le hz hb2.size
            have d0 : w2.cell? ⟨w.heap.size, 0, none⟩ = some (.int .u32 (a : Int)) := by rw [hb2.cell (p := ⟨w.heap.size, 0, none⟩) hz]; exact c0
            have d1 : w2.cell? ⟨w.heap.size, 1, none⟩ = some (.int .i64 (n : Int)) := by rw [hb2.cell (p := ⟨w.heap.size, 1, none⟩) hz]; exact c1
            clear hb2 c0 c1
            unfold pfx
            go_wp2_with fail
            refine (HA.out w2 u1 _ HSt2.out HO2.out (by omega) (by rw [List.length_append]; simp [kidsUp]; omega)).mono ?_
            rintro e w3 ⟨v3, rfl, ho3, hk3, hs3⟩
            have HNX : Hid (¬ u1.ownBlock = some w.heap.size) := fun h => by
              rcases HS.out _ h with h | h
              · have := (own_lt HO.out _ h).2; omega
              · omega
            have HO3 : Hid (w3.ownsRow B0 31 2 v3 (ps1 ++ kidsUp K0 K1 2).length (pcells (ps1 ++ kidsUp K0 K1 2))) := by
              have e : ps1 ++ kidsUp K0 K1 2 = ps1 ++ kidsUp K0 K1 1 ++ K1 := by simp [kidsUp]
              rw [e]; exact ho3
            have e0 : w3.cell? ⟨w.heap.size, 0, none⟩ = some (.int .u32 (a : Int)) := by rw [hk3.cell ⟨w.heap.size, 0, none⟩ hz2 HNX.out]; exact d0
            have e1 : w3.cell? ⟨w.heap.size, 1, none⟩ = some (.int .i64 (n : Int)) := by rw [hk3.cell ⟨w.heap.size, 1, none⟩ hz2 HNX.out]; exact d1
            have hz3 : w.heap.size < w3.heap.size := Nat.lt_of_lt_of_le hz2 hk3.size
            have HK3 : Hid (Keeps (fun b => v.ownBlock = some b) w w3) := HK2.out.trans hk3 fun b hb e => by
              rcases HS.out b e with h | h
              · exact h
              · omega
            have HS3 : Hid (∀ b, v3.ownBlock = some b → v.ownBlock = some b ∨ w.heap.size < b) := fun b hb => by
              rcases hs3 b hb with h | h
              · exact HS.out b h
              · right; omega
            clear ho3 hk3 hs3 d0 d1
            go_wp2
            exact ⟨⟨2, by omega, rfl, HO3, HK3, HS3, hz3, e0, e1⟩, by simp [intOf]⟩
        · obtain rfl : k = 2 := by omega
          go_wp2
          go_ret
          refine ⟨_, rfl, ?_, HK.out, fun b hb => ?_⟩
          · rw [HE.out]; exact HOl.out
          · rcases HS.out b hb with h | h
            · exact .inl h
            · exact .inr (by omega)
  | some vv =>
    rw [hC] at p2
    simp only [Option.isSome_some] at p2
    have HE : Hid (T = ps ++ [(a, n)] ++ (K0 ++ K1)) := by
      show T = _
      rw [hT, hC, List.append_assoc]; rfl
    have hlen1 : (ps ++ [(a, n)]).length + K0.length + K1.length ≤ 100000 := by rw [hC] at hlen; simp at hlen ⊢; omega
    clear hC hlen hT
    obtain ⟨ps1, hps⟩ : ∃ z, z = ps ++ [(a, n)] := ⟨_, rfl⟩
    rw [← hps] at HE hlen1
    have hB2 : B0 ≤ (w.alloc (.cells #[.int .u32 (a : Int), .int .i64 (n : Int)] 31)).heap.size := by simp; omega
    have hB3 : B0 ≤ ((w.alloc (.cells #[.int .u32 (a : Int), .int .i64 (n : Int)] 31)).alloc (.cells #[.int .u32 (a : Int), .int .i64 (n : Int)] 31)).heap.size := by simp; omega
    obtain ⟨v1, w1, hrun, hown, _, hgr, hnew⟩ := app_more elemPfx (w := (w.alloc (.cells #[.int .u32 (a : Int), .int .i64 (n : Int)] 31)).alloc (.cells #[.int .u32 (a : Int), .int .i64 (n : Int)] 31)) ((HO.out.alloc _).alloc _) hB3 ⟨w.heap.size + 1, 0, none⟩ 1 1 [.int .u32 (a : Int), .int .i64 (n : Int)] rfl (fun j u hu => by
      rw [show w.heap.size + 1 = (w.alloc (.cells #[.int .u32 (a : Int), .int .i64 (n : Int)] 31)).heap.size from by simp, Addr.add_mid, Nat.zero_add, World.cell?_alloc_mark]
      simpa using hu) (by simp [Value.oneCell']) (by rw [hps] at hlen1; simp at hlen1; omega)
    have hk1 : Keeps (fun b => v.ownBlock = some b) w w1 := ((((Keeps.refl (fun b => v.ownBlock = some b) w).alloc _).alloc _)).grown hgr fun b hb => .inl hb
    have hnx : ¬ v.ownBlock = some w.heap.size := fun h => by have := (own_lt HO.out _ h).2; omega
    have hk2 : Keeps (fun b => v.ownBlock = some b) ((w.alloc (.cells #[.int .u32 (a : Int), .int .i64 (n : Int)] 31)).alloc (.cells #[.int .u32 (a : Int), .int .i64 (n : Int)] 31)) w1 := (Keeps.refl (fun b => v.ownBlock = some b) _).grown hgr fun b hb => .inl hb
    have c0 : w1.cell? ⟨w.heap.size, 0, none⟩ = some (.int .u32 (a : Int)) := by rw [hk2.cell ⟨w.heap.size, 0, none⟩ (by simp only [World.size_alloc]; omega) hnx]; simp [go_sem]
    have c1 : w1.cell? ⟨w.heap.size, 1, none⟩ = some (.int .i64 (n : Int)) := by rw [hk2.cell ⟨w.heap.size, 1, none⟩ (by simp only [World.size_alloc]; omega) hnx]; simp [go_sem]
    have hz1 : w.heap.size < w1.heap.size := by have := hk2.size; simp at this; omega
    have hxo : ¬ v.ownBlock = some x := fun h => by have h1 := HNB.out x ⟨_, _, HX.out⟩; have h2 := (own_lt HO.out _ h).1; omega
    have q0 : w1.cell? ⟨x, 0, none⟩ = some (.pointer (adr (N (kid a n 0) (n + 1)))) := by rw [hk1.cell ⟨x, 0, none⟩ hxz hxo]; exact p0
    have q1 : w1.cell? ⟨x, 1, none⟩ = some (.pointer (adr (N (kid a n 1) (n + 1)))) := by rw [hk1.cell ⟨x, 1, none⟩ hxz hxo]; exact p1
    have HK1w := hide hk1
    have HO1 : Hid (w1.ownsRow B0 31 2 v1 (ps1 ++ kidsUp K0 K1 0).length (pcells (ps1 ++ kidsUp K0 K1 0))) := by
      show w1.ownsRow _ _ _ _ _ _
      rw [show kidsUp K0 K1 0 = [] from rfl, List.append_nil, hps, pcells_snoc, List.length_append]
      exact hown
    have HS1 : Hid (∀ b, v1.ownBlock = some b → v.ownBlock = some b ∨ w.heap.size < b) := fun b hb => by
      rcases hnew with h | h
      · left; rw [← h]; exact hb
      · right; rw [h] at hb; simp at hb; omega
    have hxz1 : x < w1.heap.size := by omega
    have HR := hide hrun
    have HPS := hide hps
    clear hrun hown hgr hnew hk1 hk2 hnx hxo hps hB2 hB3
    go_enter Try.func25, Try.ntmps25
    go_wp2_with ((with_reducible refine wpl_append _ _ 27 _ (.slice (some ⟨w.heap.size + 1, 0, none⟩) 1 1) _ ?_ ?_ HR.out ?_); (· rfl); (· rfl))
    go_loopw [1, 21] (fun l i wq => ∃ k : Nat, k ≤ 2 ∧ i = .int .i64 k ∧ Hid (wq.ownsRow B0 31 2 l (ps1 ++ kidsUp K0 K1 k).length (pcells (ps1 ++ kidsUp K0 K1 k))) ∧ Hid (Keeps (fun b => v.ownBlock = some b) w wq) ∧ Hid (∀ b, l.ownBlock = some b → v.ownBlock = some b ∨ w.heap.size < b) ∧ w.heap.size < wq.heap.size ∧ wq.cell? ⟨w.heap.size, 0, none⟩ = some (.int .u32 (a : Int)) ∧ wq.cell? ⟨w.heap.size, 1, none⟩ = some (.int .i64 (n : Int))) (fun _ i _ => 2 - (intOf i).toNat)
    case atStart => exact ⟨0, by omega, rfl, HO1, HK1w, HS1, hz1, c0, c1⟩
    case round =>
      clear c0 c1 q0 q1
      obtain ⟨k, hk, rfl, HOl, HK, HS, hz, c0, c1⟩ := hrel
      by_cases k0 : k = 0
      · subst k0
        have HSt : Hid (TrieIs wr B N C) := HT.out.keeps HK.out fun b hb e => by have h1 := HNB.out b hb; have h2 := (own_lt HO.out b e).1; omega
        rcases HK0.out with ⟨hy, hK⟩ | ⟨z, hy, hA⟩
        · have HO9 : Hid (wr.ownsRow B0 31 2 u1 (ps1 ++ kidsUp K0 K1 1).length (pcells (ps1 ++ kidsUp K0 K1 1))) := by
            have e : kidsUp K0 K1 1 = kidsUp K0 K1 0 := by simp [kidsUp, hK]
            rw [e]; exact HOl.out
          clear hK
          rw [hy, adr_none]
          go_wp2
          exact ⟨⟨1, by omega, rfl, HO9, HK, HS, hz, c0, c1⟩, by simp [intOf]⟩
        · have hn32 : n < 32 := by have := (HSt.out.key _ _ _ hy).1; omega
          rw [hy, adr_some]
          have HA := hide hA
          clear hA
          go_wp2_with fail
          refine (longer_any a n 0 _ HKey.out hn32 (by omega)).mono ?_
          rintro e w2 ⟨rfl, hb2⟩
          have HK2 : Hid (Keeps (fun b => v.ownBlock = some b) w w2) := HK.out.trans (Keeps.of_below hb2 (fun b => v.ownBlock = some b)) fun _ _ h => h
          have HSt2 : Hid (TrieIs w2 B N C) := HSt.out.later hb2
          have HO2 := hide (own_later HOl.out hb2)
          have hz2 : w.heap.size < w2.heap.size := Nat.lt_of_lt_of_le hz hb2.size
          have d0 : w2.cell? ⟨w.heap.size, 0, none⟩ = some (.int .u32 (a : Int)) := by rw [hb2.cell (p := ⟨w.heap.size, 0, none⟩) hz]; exact c0
          have d1 : w2.cell? ⟨w.heap.size, 1, none⟩ = some (.int .i64 (n : Int)) := by rw [hb2.cell (p := ⟨w.heap.size, 1, none⟩) hz]; exact c1
          clear hb2 c0 c1
          unfold pfx
          go_wp2_with fail
          refine (HA.out w2 u1 _ HSt2.out HO2.out (by omega) (by rw [List.length_append]; simp [kidsUp]; omega)).mono ?_
          rintro e w3 ⟨v3, rfl, ho3, hk3, hs3⟩
          have HNX : Hid (¬ u1.ownBlock = some w.heap.size) := fun h => by
            rcases HS.out _ h with h | h
            · have := (own_lt HO.out _ h).2; omega
            · omega
          have HO3 : Hid (w3.ownsRow B0 31 2 v3 (ps1 ++ kidsUp K0 K1 1).length (pcells (ps1 ++ kidsUp K0 K1 1))) := by
            have e : ps1 ++ kidsUp K0 K1 1 = ps1 ++ kidsUp K0 K1 0 ++ K0 := by simp [kidsUp]
            rw [e]; exact ho3
          have e0 : w3.cell? ⟨w.heap.size, 0, none⟩ = some (.int .u32 (a : Int)) := by rw [hk3.cell ⟨w.heap.size, 0, none⟩ hz2 HNX.out]; exact d0
          have e1 : w3.cell? ⟨w.heap.size, 1, none⟩ = some (.int .i64 (n : Int)) := by rw [hk3.cell ⟨w.heap.size, 1, none⟩ hz2 HNX.out]; exact d1
          have hz3 : w.heap.size < w3.heap.size := Nat.lt_of_lt_of_le hz2 hk3.size
          have HK3 : Hid (Keeps (fun b => v.ownBlock = some b) w w3) := HK2.out.trans hk3 fun b hb e => by
            rcases HS.out b e with h | h
            · exact h
            · omega
          have HS3 : Hid (∀ b, v3.ownBlock = some b → v.ownBlock = some b ∨ w.heap.size < b) := fun b hb => by
            rcases hs3 b hb with h | h
            · exact HS.out b h
            · right; omega
          clear ho3 hk3 hs3 d0 d1
          go_wp2
          exact ⟨⟨1, by omega, rfl, HO3, HK3, HS3, hz3, e0, e1⟩, by simp [intOf]⟩
      · by_cases k1 : k = 1
        · subst k1
          have HSt : Hid (TrieIs wr B N C) := HT.out.keeps HK.out fun b hb e => by have h1 := HNB.out b hb; have h2 := (own_lt HO.out b e).1; omega
          rcases HK1.out with ⟨hy, hK⟩ | ⟨z, hy, hA⟩
          · have HO9 : Hid (wr.ownsRow B0 31 2 u1 (ps1 ++ kidsUp K0 K1 2).length (pcells (ps1 ++ kidsUp K0 K1 2))) := by
              have e : kidsUp K0 K1 2 = kidsUp K0 K1 1 := by simp [kidsUp, hK]
              rw [e]; exact HOl.out
            clear hK
            rw [hy, adr_none]
            go_wp2
            exact ⟨⟨2, by omega, rfl, HO9, HK, HS, hz, c0, c1⟩, by simp [intOf]⟩
          · have hn32 : n < 32 := by have := (HSt.out.key _ _ _ hy).1; omega
            rw [hy, adr_some]
            have HA := hide hA
            clear hA
            go_wp2_with fail
            refine (longer_any a n 1 _ HKey.out hn32 (by omega)).mono ?_
            rintro e w2 ⟨rfl, hb2⟩
            have HK2 : Hid (Keeps (fun b => v.ownBlock = some b) w w2) := HK.out.trans (Keeps.of_below hb2 (fun b => v.ownBlock = some b)) fun _ _ h => h
            have HSt2 : Hid (TrieIs w2 B N C) := HSt.out.later hb2
            have HO2 := hide (own_later HOl.out hb2)
            have hz2 : w.heap.size < w2.heap.size := Nat.lt_of_lt_of_le hz hb2.size
            have d0 : w2.cell? ⟨w.heap.size, 0, none⟩ = some (.int .u32 (a : Int)) := by rw [hb2.cell (p := ⟨w.heap.size, 0, none⟩) hz]; exact c0
            have d1 : w2.cell? ⟨w.heap.size, 1, none⟩ = some (.int .i64 (n : Int)) := by rw [hb2.cell (p := ⟨w.heap.size, 1, none⟩) hz]; exact c1
            clear hb2 c0 c1
            unfold pfx
            go_wp2_with fail
            refine (HA.out w2 u1 _ HSt2.out HO2.out (by omega) (by rw [List.length_append]; simp [kidsUp]; omega)).mono ?_
            rintro e w3 ⟨v3, rfl, ho3, hk3, hs3⟩
            have HNX : Hid (¬ u1.ownBlock = some w.heap.size) := fun h => by
              rcases HS.out _ h with h | h
              · have := (own_lt HO.out _ h).2; omega
              · omega
            have HO3 : Hid (w3.ownsRow B0 31 2 v3 (ps1 ++ kidsUp K0 K1 2).length (pcells (ps1 ++ kidsUp K0 K1 2))) := by
              have e : ps1 ++ kidsUp K0 K1 2 = ps1 ++ kidsUp K0 K1 1 ++ K1 := by simp [kidsUp]
              rw [e]; exact ho3
            have e0 : w3.cell? ⟨w.heap.size, 0, none⟩ = some (.int .u32 (a : Int)) := by rw [hk3.cell ⟨w.heap.size, 0, none⟩ hz2 HNX.out]; exact d0
            have e1 : w3.cell? ⟨w.heap.size, 1, none⟩ = some (.int .i64 (n : Int)) := by rw [hk3.cell ⟨w.heap.size, 1, none⟩ hz2 HNX.out]; exact d1
            have hz3 : w.heap.size < w3.heap.size := Nat.lt_of_lt_of_le hz2 hk3.size
            have HK3 : Hid (Keeps (fun b => v.ownBlock = some b) w w3) := HK2.out.trans hk3 fun b hb e => by
              rcases HS.out b e with h | h
              · exact h
              · omega
            have HS3 : Hid (∀ b, v3.ownBlock = some b → v.ownBlock = some b ∨ w.heap.size < b) := fun b hb => by
              rcases hs3 b hb with h | h
              · exact HS.out b h
              · right; omega
            clear ho3 hk3 hs3 d0 d1
            go_wp2
            exact ⟨⟨2, by omega, rfl, HO3, HK3, HS3, hz3, e0, e1⟩, by simp [intOf]⟩
        · obtain rfl : k = 2 := by omega
          go_wp2
          go_ret
          refine ⟨_, rfl, ?_, HK.out, fun b hb => ?_⟩
          · rw [HE.out]; exact HOl.out
          · rcases HS.out b hb with h | h
            · exact .inl h
            · exact .inr (by omega)
theorem appall_any (B B0 : Nat) (N : Nat → Nat → Option Nat) (C : Nat → Nat → Option Int) (w0 : World) (h0 : TrieIs w0 B N C) (hN : ∀ b, Blk N b → b < B0) : ∀ (d x a n : Nat), n + d = 32 → N a n = some x → AppAt B B0 N C x a n (allC C d a n)
  | 0, x, a, n, hd, hx => by
    have kk : ∀ s, N (kid a n s) (n + 1) = none := fun s => by
      cases e : N (kid a n s) (n + 1) with
      | none => rfl
      | some c => have := (h0.key _ _ _ e).1; omega
    have := appall_loop B B0 N C x a n [] [] hN hx (by omega) (.inl ⟨kk 0, rfl⟩) (.inl ⟨kk 1, rfl⟩)
    simpa [allC] using this
  | d + 1, x, a, n, hd, hx => by
    have K := h0.key _ _ _ hx
    have kk : ∀ s, s < 2 → KidAt B B0 N C (kid a n s) (n + 1) (N (kid a n s) (n + 1)) (allC C d (kid a n s) (n + 1)) := fun s hs => by
      cases e : N (kid a n s) (n + 1) with
      | none => exact .inl ⟨rfl, h0.nothing d _ _ e (kid_key K (by omega) hs) (by omega)⟩
      | some z => exact .inr ⟨z, rfl, appall_any B B0 N C w0 h0 hN d z _ (n + 1) (by omega) e⟩
    exact appall_loop B B0 N C x a n _ _ hN hx (by omega) (kk 0 (by omega)) (kk 1 (by omega))
set_option maxHeartbeats 400000 in
theorem all_nil (w : World) : Calls Try.prog 17 #[.pointer none] w fun e w' => e = .returned (.slice none 0 0) ∧ w' = w := by
  go_enter Try.func17, Try.ntmps17
  go_wp2
  go_ret
  exact ⟨rfl, rfl⟩
set_option maxHeartbeats 400000 in
theorem all_any (B : Nat) (w : World) (N : Nat → Nat → Option Nat) (C : Nat → Nat → Option Int) (ht : TrieIs w B N C) (hl : (allC C 32 0 0).length ≤ 100000) :
    Calls Try.prog 17 #[.pointer (some ⟨B, 0, none⟩)] w fun e w' => ∃ v', e = .returned v' ∧ w'.ownsRow w.heap.size 31 2 v' (allC C 32 0 0).length (pcells (allC C 32 0 0)) ∧ Below w.heap.size w w' := by
  have hc := appall_any B w.heap.size N C w ht (fun b hb => ht.lt b hb) 32 B 0 0 rfl ht.root w (.slice none 0 0) [] ht (own_nil _ _ _ _) (Nat.le_refl _) (by simpa using hl)
  have HC := hide hc
  clear hc
  go_enter Try.func17, Try.ntmps17
  go_wp2_with fail
  refine HC.out.mono ?_
  rintro e w1 ⟨v1, rfl, ho, hk, _⟩
  have HO := hide ho
  have HK : Hid (Below w.heap.size w w1) := hk.below _ (Nat.le_refl _) fun b hb => by simp [Value.ownBlock] at hb
  clear ho hk
  go_wp2
  go_ret
  exact ⟨_, rfl, HO.out, HK.out⟩
end Go.Proofs.Ytfecknbneonidaa
