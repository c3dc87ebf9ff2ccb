/- The program's appendNumber, appendTold, valueOfGR. -/
import Derived.Test.YtflhohfeahcnfaaGreatDoorCpQ
namespace Go.Proofs.YtflhohfeahcnfaaGreatDoor
open Go.RowKit
set_option maxRecDepth 100000

/-- The last s bytes of n, the highest first. -/
def nB (n s : Nat) : List Nat := (List.range s).map fun i => n / 2 ^ (8 * (s - 1 - i)) % 256
theorem nB4 (n : Nat) : nB n 4 = by4 n := rfl
theorem nB2 (n : Nat) : nB n 2 = [n / 256 % 256, n % 256] := by
  have e : nB n 2 = [n / 2 ^ (8 * 1) % 256, n / 2 ^ (8 * 0) % 256] := rfl
  rw [e]; simp
theorem nB3 (n : Nat) : nB n 3 = (by4 n).drop 1 := rfl
/-- The first k of them. -/
def nBup (n s k : Nat) : List Nat := (List.range k).map fun i => n / 2 ^ (8 * (s - 1 - i)) % 256
theorem nBup_succ (n s k : Nat) : nBup n s (k + 1) = nBup n s k ++ [n / 2 ^ (8 * (s - 1 - k)) % 256] := by
  unfold nBup
  rw [List.range_succ, List.map_append]; rfl
theorem nBup_length (n s k : Nat) : (nBup n s k).length = k := by simp [nBup]
/-- A byte behind a row that has no room. -/
theorem app_full {wq : World} {B g n : Nat} {bs : List Nat} (hn : bs.length = n) (hc : ∀ (j x : Nat), bs[j]? = some x → wq.cell? ⟨g, j, none⟩ = some (.int .u8 (x : Int))) (hB : B ≤ wq.heap.size) (y : Nat) (hl : n ≤ 1000) :
    ∃ v' w', (Builtin.append_ #[22, 22] 22 #[.slice (some ⟨g, 0, none⟩) n n, .slice (some ⟨wq.heap.size, 0, none⟩) 1 1]).run Tryz.prog (wq.alloc (.cells #[.int .u8 (y : Int)] 5)) = .ok v' w' ∧ w'.ownsRow B 5 1 v' (bs ++ [y]).length (bcells (bs ++ [y])) ∧ Below B wq w' := by
  obtain ⟨i, h1, h2, h3, h4⟩ := info_parts Tryz.infoU8
  have hr := run_append_grow (P := Tryz.prog) (wq.alloc (.cells #[.int .u8 (y : Int)] 5)) 22 22 5 i (.int .u8 0) Tryz.underlying22 h1 h2 ⟨g, 0, none⟩ n n (bcells bs) (by rw [bcells_length, h3]; omega) (fun j v hv => by
      have hj : j < bs.length := by have := (List.getElem?_eq_some_iff.1 hv).1; rwa [bcells_length] at this
      have hx := hc j bs[j] (List.getElem?_eq_getElem hj)
      have hlt := World.block_lt_of_cell? wq _ hx
      rw [Addr.add_mid, Nat.zero_add, World.cell?_alloc_lt _ _ _ hlt, hx, ← hv]
      simp [bcells, hj]) ⟨wq.heap.size, 0, none⟩ 1 1 [.int .u8 (y : Int)] (by rw [h3]; rfl) (fun j v hv => by
      rw [Addr.add_mid, Nat.zero_add, World.cell?_alloc_mark]
      simpa using hv) (by omega) (by omega) (by rw [h4]; exact growslice_fits (by omega) (by omega))
  have hlen : (bs ++ [y]).length = n + 1 := by rw [List.length_append, hn]; rfl
  have hwq : (wq.alloc (.cells #[.int .u8 (y : Int)] 5)).heap.size = wq.heap.size + 1 := by simp
  have hold : ∀ k, k < wq.heap.size → (wq.alloc (.cells #[.int .u8 (y : Int)] 5)).heap[k]? = wq.heap[k]? := fun k hk => heap_alloc_old wq _ hk
  have hos : (wq.alloc (.cells #[.int .u8 (y : Int)] 5)).os = wq.os ∧ (wq.alloc (.cells #[.int .u8 (y : Int)] 5)).tape = wq.tape ∧ (wq.alloc (.cells #[.int .u8 (y : Int)] 5)).output = wq.output := ⟨rfl, rfl, rfl⟩
  rw [hlen]
  generalize wq.alloc (.cells #[.int .u8 (y : Int)] 5) = W at *
  have hge := grownCap_ge W (n + 1) n 5
  have hle := grownCap_le_maxLen W (n + 1) n 5 (by unfold maxLen; omega)
  generalize grownCap W (n + 1) n 5 = cap at *
  have hz1 : (Value.int IntKind.u8 0).cells.size = 1 := rfl
  refine ⟨_, _, hr, ⟨by rw [bcells_length, hlen, Nat.mul_one], .inr ⟨W.heap.size, cap, _, rfl, by omega, heap_alloc_new (World.drew W) _, hge, hle, ?_, ?_⟩⟩, ⟨hos.1, hos.2.1, hos.2.2, by simp; omega, fun k hk => ?_⟩⟩
  · simp only [Array.size_append, List.size_toArray, size_zeroCells, hz1, bcells_length, hn, List.length_cons, List.length_nil]
    omega
  · rw [Nat.mul_one, bcells_app]
    simp only [Array.toList_append]
    exact List.take_left' (by simp [bcells]; omega)
  · rw [← hold k (by omega)]
    exact heap_alloc_old (World.drew W) _ (by show k < W.heap.size; omega)
section
attribute [local go_sem ↓] kept_append
set_option maxHeartbeats 1600000 in
theorem apnum_gen (B : Nat) (v : Value) (bs : List Nat) (n s : Nat) (w : World) (hs : s = 2 ∨ s = 3 ∨ s = 4) (hl : bs.length ≤ 1000) (hB : B ≤ w.heap.size)
    (hf : ∀ y : Nat, ∃ v' w', (Builtin.append_ #[22, 22] 22 #[v, .slice (some ⟨w.heap.size, 0, none⟩) 1 1]).run Tryz.prog (w.alloc (.cells #[.int .u8 (y : Int)] 5)) = .ok v' w' ∧ w'.ownsRow B 5 1 v' (bs ++ [y]).length (bcells (bs ++ [y])) ∧ Below B w w') :
    Calls Tryz.prog 140 #[v, .int .i64 (n : Int), .int .i64 (s : Int)] w fun e w' => ∃ v', e = .returned v' ∧ w'.ownsRow B 5 1 v' (bs ++ nB n s).length (bcells (bs ++ nB n s)) ∧ Below B w w' := by
  have HF := hide hf
  clear hf
  have hs4 : s ≤ 4 := by omega
  have HS0 : Hid (0 < s) := by show 0 < s; omega
  clear hs
  go_enter Tryz.func140, Tryz.ntmps140
  go_wp2
  go_loopw [0, 9] (fun u i wq => ∃ k : Nat, k ≤ s ∧ i = .int .i64 k ∧ Hid (k = 0 ∧ u = v ∧ wq = w ∨ wq.ownsRow B 5 1 u (bs ++ nBup n s k).length (bcells (bs ++ nBup n s k))) ∧ Hid (Below B w wq)) (fun _ i _ => s - (intOf i).toNat)
  case atStart => exact ⟨0, Nat.zero_le _, rfl, .inl ⟨rfl, rfl, rfl⟩, Below.refl _ _⟩
  case round =>
    obtain ⟨k, hk, rfl, HO, HB⟩ := hrel
    by_cases hks : k < s
    · have hgo : ∃ v3 w3, (Builtin.append_ #[22, 22] 22 #[u0, .slice (some ⟨wr.heap.size, 0, none⟩) 1 1]).run Tryz.prog (wr.alloc (.cells #[.int .u8 ((n / 2 ^ (8 * (s - 1 - k)) % 256 : Nat) : Int)] 5)) = .ok v3 w3 ∧ w3.ownsRow B 5 1 v3 (bs ++ nBup n s k ++ [n / 2 ^ (8 * (s - 1 - k)) % 256]).length (bcells (bs ++ nBup n s k ++ [n / 2 ^ (8 * (s - 1 - k)) % 256])) ∧ Below B wr w3 := by
        rcases HO.out with ⟨rfl, rfl, rfl⟩ | ho
        · obtain ⟨v3, w3, h1, h2, h3⟩ := HF.out (n / 2 ^ (8 * (s - 1 - 0)) % 256)
          exact ⟨v3, w3, h1, by rw [show nBup n s 0 = [] from rfl, List.append_nil]; exact h2, h3⟩
        · obtain ⟨v3, w3, h1, h2, h3, _⟩ := more_bytes ho (by have := HB.out.size; omega) [n / 2 ^ (8 * (s - 1 - k)) % 256] 1 #[.int .u8 ((n / 2 ^ (8 * (s - 1 - k)) % 256 : Nat) : Int)] rfl (by omega) rfl (by rw [List.length_append, nBup_length]; omega)
          exact ⟨v3, w3, h1, h2, h3⟩
      obtain ⟨v3, w3, hr3, ho3, hb3⟩ := hgo
      have HR3 := hide hr3
      have HO3 : Hid (k + 1 = 0 ∧ v3 = v ∧ w3 = w ∨ w3.ownsRow B 5 1 v3 (bs ++ nBup n s (k + 1)).length (bcells (bs ++ nBup n s (k + 1)))) := by
        refine .inr ?_
        rw [nBup_succ, ← List.append_assoc]; exact ho3
      have HB3 : Hid (Below B w w3) := HB.out.trans hb3
      have HV : Hid ((n : Int) / 2 ^ (8 * (s - 1 - k)) % 256 = ((n / 2 ^ (8 * (s - 1 - k)) % 256 : Nat) : Int)) := by
        show _ = _
        simp
      clear hr3 ho3 hb3 HO HB HF
      generalize ((n / 2 ^ (8 * (s - 1 - k)) % 256 : Nat)) = yy at *
      go_wp2_with fail
      refine kept_append_intro _ _ _ (.slice (some ⟨wr.heap.size, 0, none⟩) 1 1) v3 (w' := w3) (by rfl) (by rfl) (by rw [HV.out]; exact HR3.out) ?_
      go_wp2
      exact ⟨⟨k + 1, by omega, by go_num, HO3, HB3⟩, by simp [intOf]; omega⟩
    · have hke : k = s := by omega
      subst hke
      have HO4 : Hid (wr.ownsRow B 5 1 u0 (bs ++ nBup n k k).length (bcells (bs ++ nBup n k k))) := by
        rcases HO.out with ⟨h0, _, _⟩ | ho
        · exact absurd HS0.out (by omega)
        · exact ho
      clear HO
      go_wp2
      go_ret
      exact ⟨_, rfl, HO4.out, HB.out⟩
theorem apnum_any (B : Nat) (v : Value) (bs : List Nat) (n s : Nat) (w : World) (hs : s = 2 ∨ s = 3 ∨ s = 4) (hl : bs.length ≤ 1000) (hB : B ≤ w.heap.size) (ho : w.ownsRow B 5 1 v bs.length (bcells bs)) :
    Calls Tryz.prog 140 #[v, .int .i64 (n : Int), .int .i64 (s : Int)] w fun e w' => ∃ v', e = .returned v' ∧ w'.ownsRow B 5 1 v' (bs ++ nB n s).length (bcells (bs ++ nB n s)) ∧ Below B w w' :=
  apnum_gen B v bs n s w hs hl hB (fun y => by
    obtain ⟨v3, w3, h1, h2, h3, _⟩ := more_bytes ho hB [y] 1 #[.int .u8 (y : Int)] rfl (by omega) rfl (by omega)
    exact ⟨v3, w3, h1, h2, h3⟩)
set_option maxHeartbeats 1600000 in
theorem aptold_any (B : Nat) (v : Value) (bs : List Nat) (k : Nat) (a : Option Addr) (c : Nat) (zs : List Nat) (w : World) (hk : k < 256) (hz : zs.length < 256) (hl : bs.length ≤ 1000) (hB : B ≤ w.heap.size) (ho : w.ownsRow B 5 1 v bs.length (bcells bs)) (hr : BRd w a zs)
    (hap : ∀ x, a = some x → v.ownBlock ≠ some x.block) :
    Calls Tryz.prog 111 #[v, .int .i64 (k : Int), .slice a zs.length c] w fun e w' => ∃ v', e = .returned v' ∧ w'.ownsRow B 5 1 v' (bs ++ tlv k zs).length (bcells (bs ++ tlv k zs)) ∧ Below B w w' := by
  obtain ⟨v1, w1, hr1, ho1, hb1, hk1⟩ := more_bytes ho hB [k, zs.length] 2 #[.int .u8 (k : Int), .int .u8 (zs.length : Int)] rfl (by omega) rfl (by omega)
  have hrd : BRd w1 a zs := ⟨⟨hr.1.1, fun hp => by
    obtain ⟨b, off, rfl, hc⟩ := hr.1.2 hp
    refine ⟨b, off, rfl, fun i hi => ?_⟩
    have hx := hc i hi
    rw [World.cell?_of_block (w := w) (hk1 b (by have := World.block_lt_of_cell? w _ hx; simpa using this) (hap _ rfl))]
    exact hx⟩, hr.2⟩
  obtain ⟨g, c1, rfl, _, _⟩ := ho1.form (by simp)
  have hB1 : B ≤ w1.heap.size := Nat.le_trans hB hb1.size
  obtain ⟨v2, w2, hr2, ho2, hb2⟩ := app_brd zs a c rfl ho1 hB1 (by simp; omega) hrd
  have HR1 := hide hr1
  have HR2 := hide hr2
  have HO2 : Hid (w2.ownsRow B 5 1 v2 (bs ++ tlv k zs).length (bcells (bs ++ tlv k zs))) := by
    have e : bs ++ tlv k zs = bs ++ [k, zs.length] ++ zs := by simp [tlv]
    show World.ownsRow _ _ _ _ _ _ _
    rw [e]; exact ho2
  have HB2 : Hid (Below B w w2) := hb1.trans hb2
  clear hr1 hr2 ho1 ho2 hb1 hb2 hk1 hrd hr hap ho
  have hwk : IntKind.u8.wrap (k : Int) = (k : Int) := by rw [IntKind.wrap_u8]; omega
  have hwz : IntKind.u8.wrap (zs.length : Int) = (zs.length : Int) := by rw [IntKind.wrap_u8]; omega
  generalize zs.length = n at *
  generalize (bs ++ [k, n]).length = m1 at *
  go_enter Tryz.func111, Tryz.ntmps111
  go_wp2_with fail
  refine kept_append_intro _ _ _ (.slice (some ⟨w.heap.size, 0, none⟩) 2 2) _ (w' := w1) (by rfl) (by rfl) (by exact HR1.out) ?_
  go_wp2_with fail
  refine kept_append_intro _ _ _ _ _ (w' := w2) (by rfl) (by rfl) (by exact HR2.out) ?_
  go_wp2
  go_ret
  exact ⟨_, rfl, HO2.out, HB2.out⟩
end
end Go.Proofs.YtflhohfeahcnfaaGreatDoor
