/- The program's first and Decode. -/
import Derived.Test.YtdaagjlijhmghaaPfxMk
import Derived.Test.YtdaagjlijhmghaaPfxD
import Derived.Test.YtdaagjlijhmghaaPfxAp
namespace Go.Proofs.Ytdaagjlijhmghaa
open Go.RowKit
set_option maxRecDepth 100000

theorem int_eq {k : IntKind} {a b : Int} (h : a = b) : Value.int k a = .int k b := by rw [h]
set_option maxHeartbeats 400000 in
theorem bytesFor_any (n : Nat) (w : World) (hn : n ≤ 1000) : Calls Try.prog 38 #[.int .i64 (n : Int)] w fun e w' => e = .returned (.int .i64 (szOf n : Int)) ∧ w' = w := by
  go_enter Try.func38, Try.ntmps38
  go_wp2
  go_ret
  exact ⟨ret_int (by unfold szOf; omega), rfl⟩
set_option maxHeartbeats 400000 in
theorem shiftOf_any (i : Nat) (w : World) (hi : i < 4) : Calls Try.prog 39 #[.int .i64 (i : Int)] w fun e w' => e = .returned (.int .i64 ((8 * (3 - i) : Nat) : Int)) ∧ w' = w := by
  go_enter Try.func39, Try.ntmps39
  go_wp2
  go_ret
  exact ⟨ret_int (by omega), rfl⟩
set_option maxHeartbeats 800000 in
theorem first_no (b o m c : Nat) (f : Nat → Nat) (w : World) (hm : 0 < m) (hmc : m ≤ c) (hm2 : m ≤ 100000) (hf : f 0 < 256) (h0 : w.cell? ⟨b, o, none⟩ = some (.int .u8 (f 0 : Int))) (hk : okAt f m 0 = false) :
    Calls Try.prog 31 #[.slice (some ⟨b, o, none⟩) m c] w fun e w' => e = .returned (.tuple #[pfx 0 0, .slice none 0 0, .bool false]) ∧ Below w.heap.size w w' := by
  have hlt := World.block_lt_of_cell? w _ h0
  simp only at hlt
  have hok := of_decide_eq_false hk
  have m0 : (0 : Int) < (m : Int) := by omega
  have m1 : (1 : Int) ≤ (m : Int) := by omega
  have m2 : (m : Int) ≤ (c : Int) := by omega
  have e1 : ((m : Int) - 1) = ((m - 1 : Nat) : Int) := by omega
  generalize f 0 = n at *
  by_cases h32 : 32 < n
  · have i32 : (32 : Int) < (n : Int) := by omega
    clear hok
    go_enter Try.func31, Try.ntmps31
    go_wp2_with ((go_at_call 38; refine (bytesFor_any n _ (by omega)).mono ?_; rintro e w1 ⟨rfl, rfl⟩))
    all_goals exact bodyPost_ret (v := .tuple #[pfx 0 0, .slice none 0 0, .bool false]) (by simp [results, Try.results31, go_sem, pfx]) rfl ⟨rfl, (Below.refl _ _).alloc (Nat.le_refl _) _⟩
  · have d32 : decide ((32 : Int) < (n : Int)) = false := decide_eq_false (by omega)
    have hs : ((m - 1 : Nat) : Int) < (szOf n : Int) := by omega
    clear hok
    go_enter Try.func31, Try.ntmps31
    go_wp2_with ((go_at_call 38; refine (bytesFor_any n _ (by omega)).mono ?_; rintro e w1 ⟨rfl, rfl⟩))
    all_goals exact bodyPost_ret (v := .tuple #[pfx 0 0, .slice none 0 0, .bool false]) (by simp [results, Try.results31, go_sem, pfx]) rfl ⟨rfl, (Below.refl _ _).alloc (Nat.le_refl _) _⟩
theorem or_val (f : Nat → Nat) (k x : Nat) (hk : k < 4) (hf : f (1 + k) < 256) (hx : x < 4294967296) (e : x = numUp f 1 k) :
    bits .or .u32 (x : Int) ((f (1 + k) : Int) * 2 ^ (8 * (3 - k)) % 4294967296) = ((numUp f 1 (k + 1) : Nat) : Int) := by
  have hlt : f (1 + k) * 2 ^ (8 * (3 - k)) < 4294967296 := by
    have h1 : f (1 + k) * 2 ^ (8 * (3 - k)) < 256 * 2 ^ (8 * (3 - k)) := Nat.mul_lt_mul_of_pos_right hf (Nat.two_pow_pos _)
    have h2 : 2 ^ (8 * (3 - k)) ≤ 2 ^ 24 := Nat.pow_le_pow_right (by omega) (by omega)
    simp only [Nat.reducePow] at h2
    omega
  have e2 : (f (1 + k) : Int) * 2 ^ (8 * (3 - k)) = ((f (1 + k) * 2 ^ (8 * (3 - k)) : Nat) : Int) := by simp
  rw [e2, Int.emod_eq_of_lt (Int.natCast_nonneg _) (by omega), u32_or_nat x _ hx hlt, e, numUp_or f 1 k hk hf]
set_option maxHeartbeats 1600000 in
theorem first_yes (b o m c : Nat) (f : Nat → Nat) (w : World) (hmc : m ≤ c) (hm2 : m ≤ 100000) (hf : ∀ i, i < m → f i < 256) (hcell : ∀ i, i < m → w.cell? ⟨b, o + i, none⟩ = some (.int .u8 (f i : Int))) (n s : Nat) (hn : f 0 = n) (hs : szOf n = s) (hn32 : n ≤ 32) (hsm : 1 + s ≤ m) (hc1 : ¬ c = 1) :
    Calls Try.prog 31 #[.slice (some ⟨b, o, none⟩) m c] w fun e w' => ∃ a' c', e = .returned (.tuple #[pfx (cutTo (numUp f 1 s) n) n, .slice a' (m - 1 - s) c', .bool true]) ∧ m - 1 - s ≤ c' ∧ (1 + s < m → a' = some ⟨b, o + (1 + s), none⟩) ∧ Below w.heap.size w w' := by
  have h0 := hcell 0 (by omega)
  rw [Nat.add_zero, hn] at h0
  have hlt := World.block_lt_of_cell? w _ h0
  simp only at hlt
  have hs4 : s ≤ 4 := by have := szOf_le n hn32; omega
  have hu : numUp f 1 s < 4294967296 := numUp_lt32 f 1 s hs4 (fun q hq => hf (1 + q) (by omega))
  have m0 : (0 : Int) < (m : Int) := by omega
  have m1 : (1 : Int) ≤ (m : Int) := by omega
  have m2 : (m : Int) ≤ (c : Int) := by omega
  have m3 : (s : Int) ≤ ((m - 1 : Nat) : Int) := by omega
  have m4 : (s : Int) ≤ ((c - 1 : Nat) : Int) := by omega
  have m5 : ((m - 1 : Nat) : Int) ≤ ((c - 1 : Nat) : Int) := by omega
  have d32 : decide ((32 : Int) < (n : Int)) = false := decide_eq_false (by omega)
  have ds : decide (m - 1 < s) = false := decide_eq_false (by omega)
  have HC := hide hcell
  have HF := hide hf
  have HU := hide hu
  have HS := hide hs
  clear hcell hf hu hs hn
  go_enter Try.func31, Try.ntmps31
  go_wp2_with ((go_at_call 38; refine (bytesFor_any n _ (by omega)).mono ?_; rw [HS.out]; rintro e w1 ⟨rfl, rfl⟩))
  go_loop [7, 33] (fun r i => ∃ k x : Nat, k ≤ s ∧ i = .int .i64 k ∧ r = .int .u32 (x : Int) ∧ Hid (x = numUp f 1 k)) (fun _ i => s - (intOf i).toNat)
  case atStart => exact ⟨0, 0, Nat.zero_le _, rfl, rfl, rfl⟩
  case round =>
    obtain ⟨k, x, hk, rfl, rfl, HX⟩ := hrel
    by_cases hlt2 : k < s
    · have hck : w.cell? ⟨b, o + 1 + k, none⟩ = some (.int .u8 (f (1 + k) : Int)) := by rw [Nat.add_assoc]; exact HC.out (1 + k) (by omega)
      have hfk := HF.out (1 + k) (by omega)
      have hx : x < 4294967296 := by rw [HX.out]; exact numUp_lt32 f 1 k (by omega) (fun q hq => HF.out (1 + q) (by omega))
      have hk0 : (0 : Int) ≤ (k : Int) := Int.natCast_nonneg _
      have hk1 : (k : Int) < (s : Int) := by omega
      have hk4 : k < 4 := by omega
      have HV := hide (or_val f k x hk4 hfk hx HX.out)
      generalize f (1 + k) = y at *
      have hsh : (8 * (3 - k) : Nat) < 32 := by omega
      generalize hq : 8 * (3 - k) = q at *
      go_wp2_with ((go_at_call 39; refine (shiftOf_any k _ hk4).mono ?_; rw [hq]; rintro e w1 ⟨rfl, rfl⟩))
      exact ⟨⟨k + 1, numUp f 1 (k + 1), by omega, by go_num, int_eq HV.out, rfl⟩, by simp [intOf]; omega⟩
    · have hks : k = s := by omega
      subst hks
      clear hlt2 hk
      have HM : Hid (x < 4294967296) := by show x < 4294967296; rw [HX.out]; exact HU.out
      go_wp2_with ((go_at_call 8; refine (make_in x n _ HM.out hn32).mono ?_; rintro e w1 ⟨rfl, hb⟩; unfold pfx; have r0 : w1.cell? ⟨w.heap.size, 0, none⟩ = some (.int .u32 0) := (by rw [hb.cell (p := ⟨w.heap.size, 0, none⟩) (by simp)]; simp [go_sem]); have r1 : w1.cell? ⟨w.heap.size, 1, none⟩ = some (.int .i64 0) := (by rw [hb.cell (p := ⟨w.heap.size, 1, none⟩) (by simp)]; simp [go_sem]); have z0 : w1.frozen? ⟨w.heap.size, 0, none⟩ = false := (by rw [hb.frozen (p := ⟨w.heap.size, 0, none⟩) (by simp)]; simp [go_sem]); have z1 : w1.frozen? ⟨w.heap.size, 1, none⟩ = false := (by rw [hb.frozen (p := ⟨w.heap.size, 1, none⟩) (by simp)]; simp [go_sem]); have hz : w.heap.size < w1.heap.size := (by have := hb.size; simp at this; omega); have HB := hide hb; clear hb))
      go_region
      generalize ha1 : (if c - 1 = k then some (⟨b, o + 1, none⟩ : Addr) else some ⟨b, o + 1 + k, none⟩) = a1
      have HA1 := hide ha1
      clear ha1
      go_wp2
      refine bodyPost_ret (v := .tuple #[.agg #[.int .u32 (cutTo x n : Int), .int .i64 (n : Int)], .slice a1 (m - 1 - k) (c - 1 - k), .bool true]) (by simp [results, Try.results31, go_sem, r0, r1, hz]) rfl ⟨_, _, by rw [HX.out]; rfl, by omega, fun h => by rw [← HA1.out, if_neg (by omega), Nat.add_assoc], ?_⟩
      exact ((((((Below.refl _ _).alloc (Nat.le_refl _) _).trans (HB.out.mono (by simp))).setCell (Nat.le_refl _) _).setCell (Nat.le_refl _) _).alloc (by simp; omega) _).drew
set_option maxHeartbeats 1600000 in
theorem first_one (b o : Nat) (w : World) (h0 : w.cell? ⟨b, o, none⟩ = some (.int .u8 0)) :
    Calls Try.prog 31 #[.slice (some ⟨b, o, none⟩) 1 1] w fun e w' => ∃ a' c', e = .returned (.tuple #[pfx 0 0, .slice a' 0 c', .bool true]) ∧ Below w.heap.size w w' := by
  have hlt := World.block_lt_of_cell? w _ h0
  simp only at hlt
  have HM : Hid (cutTo 0 0 = 0) := cutTo_none 0 (by omega)
  have HS : Hid (szOf 0 = 0) := rfl
  go_enter Try.func31, Try.ntmps31
  go_wp2_with ((go_at_call 38; refine (bytesFor_any 0 _ (by omega)).mono ?_; rw [HS.out]; rintro e w1 ⟨rfl, rfl⟩))
  go_loop [7, 33] (fun r i => i = .int .i64 0 ∧ r = .int .u32 0) (fun _ i => 0 - (intOf i).toNat)
  case atStart => exact ⟨rfl, rfl⟩
  case round =>
    obtain ⟨rfl, rfl⟩ := hrel
    go_wp2_with ((go_at_call 8; refine (make_in 0 0 _ (by omega) (by omega)).mono ?_; rw [HM.out]; rintro e w1 ⟨rfl, hb⟩; unfold pfx; have r0 : w1.cell? ⟨w.heap.size, 0, none⟩ = some (.int .u32 0) := (by rw [hb.cell (p := ⟨w.heap.size, 0, none⟩) (by simp)]; simp [go_sem]); have r1 : w1.cell? ⟨w.heap.size, 1, none⟩ = some (.int .i64 0) := (by rw [hb.cell (p := ⟨w.heap.size, 1, none⟩) (by simp)]; simp [go_sem]); have z0 : w1.frozen? ⟨w.heap.size, 0, none⟩ = false := (by rw [hb.frozen (p := ⟨w.heap.size, 0, none⟩) (by simp)]; simp [go_sem]); have z1 : w1.frozen? ⟨w.heap.size, 1, none⟩ = false := (by rw [hb.frozen (p := ⟨w.heap.size, 1, none⟩) (by simp)]; simp [go_sem]); have hz : w.heap.size < w1.heap.size := (by have := hb.size; simp at this; omega); have HB := hide hb; clear hb))
    go_region
    go_wp2
    refine bodyPost_ret (v := .tuple #[.agg #[.int .u32 0, .int .i64 0], .slice (some ⟨b, o, none⟩) 0 0, .bool true]) (by simp [results, Try.results31, go_sem, r0, r1, hz]) rfl ⟨_, _, rfl, ?_⟩
    exact ((((((Below.refl _ _).alloc (Nat.le_refl _) _).trans (HB.out.mono (by simp))).setCell (Nat.le_refl _) _).setCell (Nat.le_refl _) _).alloc (by simp; omega) _).drew
theorem okAt_shift (f : Nat → Nat) (len i : Nat) (hi : i ≤ len) : okAt (fun j => f (i + j)) (len - i) 0 = okAt f len i := by
  unfold okAt
  rw [Bool.eq_iff_iff]
  simp only [Nat.add_zero, decide_eq_true_eq]
  omega
/-- first, at place i of len bytes. -/
theorem first_at (b off len i c : Nat) (f : Nat → Nat) (w : World) (hi : i < len) (hc : len - i ≤ c) (hl : len ≤ 100000) (hf : ∀ j, j < len → f j < 256) (hcell : ∀ j, j < len → w.cell? ⟨b, off + j, none⟩ = some (.int .u8 (f j : Int))) (hk : okAt f len i = true) :
    Calls Try.prog 31 #[.slice (some ⟨b, off + i, none⟩) (len - i) c] w fun e w' => ∃ a' c', e = .returned (.tuple #[pfx (itemAt f i).1 ((itemAt f i).2 : Nat), .slice a' (len - (i + 1 + szOf (f i))) c', .bool true]) ∧ len - (i + 1 + szOf (f i)) ≤ c' ∧ (i + 1 + szOf (f i) < len → a' = some ⟨b, off + (i + 1 + szOf (f i)), none⟩) ∧ Below w.heap.size w w' := by
  obtain ⟨h1, h2⟩ := of_decide_eq_true hk
  have hn : numUp (fun j => f (i + j)) 1 (szOf (f i)) = numUp f (i + 1) (szOf (f i)) := numUp_congr _ _ _ _ _ (fun q _ => by show f (i + (1 + q)) = f (i + 1 + q); rw [Nat.add_assoc])
  by_cases hc1 : c = 1
  · subst hc1
    have e1 : len - i = 1 := by omega
    have e2 : f i = 0 := by unfold szOf at h2; omega
    have h0 := hcell i hi
    rw [e2] at h0
    rw [e1]
    refine (first_one b (off + i) w h0).mono ?_
    rintro e w' ⟨a', c', rfl, hb⟩
    refine ⟨a', c', ?_, by rw [e2]; omega, fun h => by rw [e2] at h; omega, hb⟩
    have e3 : itemAt f i = (0, 0) := by
      unfold itemAt
      rw [e2]
      show (cutTo (numUp f (i + 1) 0) 0, 0) = (0, 0)
      rw [numUp, cutTo_none 0 (by omega)]
    rw [e3, e2, show len - (i + 1 + szOf 0) = 0 from by omega]
    rfl
  · refine (first_yes b (off + i) (len - i) c (fun j => f (i + j)) w hc (by omega) (fun j hj => hf (i + j) (by omega)) (fun j hj => by rw [Nat.add_assoc]; exact hcell (i + j) (by omega)) (f i) (szOf (f i)) rfl rfl h1 (by omega) hc1).mono ?_
    rintro e w' ⟨a', c', rfl, hc', ha', hb⟩
    refine ⟨a', c', ?_, by omega, fun h => by rw [ha' (by omega)]; congr 2; omega, hb⟩
    rw [hn, show len - i - 1 - szOf (f i) = len - (i + 1 + szOf (f i)) from by omega]
    rfl
theorem first_bad (b off len i c : Nat) (f : Nat → Nat) (w : World) (hi : i < len) (hc : len - i ≤ c) (hl : len ≤ 100000) (hf : ∀ j, j < len → f j < 256) (hcell : ∀ j, j < len → w.cell? ⟨b, off + j, none⟩ = some (.int .u8 (f j : Int))) (hk : okAt f len i = false) :
    Calls Try.prog 31 #[.slice (some ⟨b, off + i, none⟩) (len - i) c] w fun e w' => e = .returned (.tuple #[pfx 0 0, .slice none 0 0, .bool false]) ∧ Below w.heap.size w w' :=
  first_no b (off + i) (len - i) c (fun j => f (i + j)) w (by omega) hc (by omega) (hf i hi) (hcell i hi) (by rw [okAt_shift f len i (by omega)]; exact hk)
/-- What Decode answers. -/
def DecRes (w w' : World) (r : Option (List (Nat × Nat))) (e : Ending) : Prop :=
  match r with
  | none => e = .returned (.tuple #[.slice none 0 0, .bool false])
  | some ps => ∃ v, e = .returned (.tuple #[v, .bool true]) ∧ w'.ownsRow w.heap.size 24 2 v ps.length (pcells ps)
set_option maxHeartbeats 1600000 in
theorem decode_some (b off len cap : Nat) (f : Nat → Nat) (w : World) (hl : len ≤ 100000) (hlc : len ≤ cap) (hf : ∀ j, j < len → f j < 256) (hcell : ∀ j, j < len → w.cell? ⟨b, off + j, none⟩ = some (.int .u8 (f j : Int))) :
    Calls Try.prog 17 #[.slice (some ⟨b, off, none⟩) len cap] w fun e w' => DecRes w w' (decRun f len 0 []) e ∧ Below w.heap.size w w' := by
  have HC := hide hcell
  have HF := hide hf
  clear hcell hf
  go_enter Try.func17, Try.ntmps17
  go_wp2
  go_loopw [0, 4] (fun s v wq => ∃ (i : Nat) (acc : List (Nat × Nat)) (a' : Option Addr) (c' r : Nat), s = .slice a' r c' ∧ r = len - i ∧ i ≤ len ∧ r ≤ c' ∧ Hid (i < len → a' = some ⟨b, off + i, none⟩) ∧ Hid (wq.ownsRow w.heap.size 24 2 v acc.length (pcells acc)) ∧ Hid (Below w.heap.size w wq) ∧ Hid (decRun f len 0 [] = decRun f len i acc) ∧ acc.length ≤ i) (fun s _ _ => sliceLen s)
  case atStart => exact ⟨0, [], _, cap, len, rfl, rfl, Nat.zero_le _, hlc, fun _ => rfl, own_nil _ _ _ _, Below.refl _ _, rfl, Nat.le_refl _⟩
  case round =>
    obtain ⟨i, acc, a', c', r, rfl, hr, hi, hrc, HA, HO, HB, HE, hal⟩ := hrel
    by_cases hlt : i < len
    · have ha := HA.out hlt
      subst ha
      have hr0 : (0 : Int) < (r : Int) := by omega
      have hcw : Hid (∀ j, j < len → wr.cell? ⟨b, off + j, none⟩ = some (.int .u8 (f j : Int))) := fun j hj => by
        rw [(Keeps.of_below HB.out (fun _ => False)).cell _ (World.block_lt_of_cell? w _ (HC.out j hj)) (fun h => h)]
        exact HC.out j hj
      have HRR := hide hr
      have hrl : r ≤ len := by omega
      clear hr HA
      cases hk : okAt f len i with
      | false =>
        have HN : Hid (decRun f len 0 [] = none) := by show decRun f len 0 [] = none; rw [HE.out, decRun_no hlt hk]
        have HK := hide hk
        clear hk
        go_wp2_with fail
        rw [HRR.out]
        refine (first_bad b off len i c' f wr hlt (by rw [← HRR.out]; exact hrc) hl HF.out hcw.out HK.out).mono ?_
        rintro e w1 ⟨rfl, hb⟩
        unfold pfx
        have HB1 : Hid (Below w.heap.size w w1) := HB.out.trans (hb.mono HB.out.size)
        clear hb
        go_wp2
        go_ret2
        exact ⟨by rw [HN.out]; rfl, HB1.out.alloc HB1.out.size _⟩
      | true =>
        have HK := hide hk
        clear hk
        go_wp2_with fail
        rw [HRR.out]
        refine (first_at b off len i c' f wr hlt (by rw [← HRR.out]; exact hrc) hl HF.out hcw.out HK.out).mono ?_
        rintro e w1 ⟨a2, c2, rfl, hc2, ha2, hb⟩
        unfold pfx
        have HB1 : Hid (Below w.heap.size w w1) := HB.out.trans (hb.mono HB.out.size)
        have HO1 := hide (own_later HO.out hb)
        have HE1 : Hid (decRun f len 0 [] = decRun f len (i + 1 + szOf (f i)) (acc ++ [itemAt f i])) := by show decRun f len 0 [] = _; rw [HE.out, decRun_go hlt HK.out]
        have HL2 : Hid (i + 1 + szOf (f i) ≤ len) := (of_decide_eq_true HK.out).2
        clear hb HB HO HE HC
        have HC2 := hide hc2
        have HA2 := hide ha2
        clear hc2 ha2
        generalize hit : itemAt f i = it at *
        obtain ⟨A, n⟩ := it
        generalize hni : i + 1 + szOf (f i) = i2 at *
        have HNI : Hid (i < i2) := by show i < i2; omega
        clear hni hit
        generalize hr2 : len - i2 = r2 at *
        have HR2 := hide hr2
        clear hr2
        obtain ⟨v3, w3, hrun, hown3, hb3⟩ := app_new elemPfx (w := w1.alloc (.cells #[.int .u32 (A : Int), .int .i64 (n : Int)] 24)) (HO1.out.alloc _) (by simp; have := HB1.out.size; omega) 1 [.int .u32 (A : Int), .int .i64 (n : Int)] rfl (by simp [Value.oneCell']) (by omega) (w1.heap.size + 1) (by simp)
        have HR3 := hide hrun
        have HO3 : Hid (w3.ownsRow w.heap.size 24 2 v3 (acc ++ [(A, n)]).length (pcells (acc ++ [(A, n)]))) := by
          show w3.ownsRow _ _ _ _ _ _
          rw [pcells_snoc, List.length_append]
          exact hown3
        have HB3 : Hid (Below w.heap.size w w3) := (HB1.out.alloc HB1.out.size _).trans hb3
        clear hrun hown3 hb3 HO1 HB1
        go_wp2_with ((with_reducible refine wpl_append _ _ 33 _ (.slice (some ⟨w1.heap.size + 1, 0, none⟩) 1 1) _ ?_ ?_ HR3.out ?_); (· rfl); (· rfl))
        exact ⟨⟨i2, acc ++ [(A, n)], a2, c2, r2, rfl, HR2.out.symm, HL2.out, HC2.out, HA2, HO3, HB3, HE1, by have := HNI.out; simp; omega⟩, by have := HNI.out; have := HRR.out; have := HR2.out; have := HL2.out; simp [sliceLen]; omega⟩
    · have HN : Hid (decRun f len 0 [] = some acc) := by show decRun f len 0 [] = some acc; rw [HE.out, decRun_end hlt]
      have hr0 : r = 0 := by omega
      subst hr0
      go_wp2
      go_ret2
      exact ⟨by rw [HN.out]; exact ⟨_, rfl, HO.out⟩, HB.out⟩
set_option maxHeartbeats 400000 in
theorem decode_empty (a : Option Addr) (cap : Nat) (f : Nat → Nat) (w : World) :
    Calls Try.prog 17 #[.slice a 0 cap] w fun e w' => DecRes w w' (decRun f 0 0 []) e ∧ Below w.heap.size w w' := by
  have HN : Hid (decRun f 0 0 [] = some []) := decRun_end (by omega)
  go_enter Try.func17, Try.ntmps17
  go_wp2
  go_loopw [0, 4] (fun s v wq => s = .slice a 0 cap ∧ v = .slice none 0 0 ∧ wq = w) (fun s _ _ => sliceLen s)
  case atStart => exact ⟨rfl, rfl, rfl⟩
  case round =>
    obtain ⟨rfl, rfl, rfl⟩ := hrel
    go_wp2
    go_ret2
    exact ⟨by rw [HN.out]; exact ⟨_, rfl, own_nil _ _ _ _⟩, Below.refl _ _⟩
theorem decode_any (a : Option Addr) (len cap : Nat) (f : Nat → Nat) (w : World) (hl : len ≤ 100000) (hlc : len ≤ cap) (hf : ∀ j, j < len → f j < 256) (h : Rw w a len f) :
    Calls Try.prog 17 #[.slice a len cap] w fun e w' => DecRes w w' (decRun f len 0 []) e ∧ Below w.heap.size w w' := by
  by_cases h0 : len = 0
  · subst h0; exact decode_empty a cap f w
  · obtain ⟨b, off, rfl, hc⟩ := h.2 (by omega)
    exact decode_some b off len cap f w hl hlc hf hc
end Go.Proofs.Ytdaagjlijhmghaa
