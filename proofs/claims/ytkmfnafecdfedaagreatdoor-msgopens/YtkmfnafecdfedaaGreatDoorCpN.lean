/- The program's numberOf and firstUnicast. -/
import Derived.Test.YtkmfnafecdfedaaGreatDoorHCe
import Derived.Test.YtkmfnafecdfedaaGreatDoorCpL
import Derived.Laws.IdiomStrings
namespace Go.Proofs.YtkmfnafecdfedaaGreatDoor
open Go.RowKit
set_option maxRecDepth 100000

theorem shl_or (N x : Nat) (hN : N < 16777216) (hx : x < 256) : bits .or .i64 ((N : Int) * 256) (x : Int) = ((N * 256 + x : Nat) : Int) := by
  have e := orI64 (N * 256) x (by omega) (by omega)
  have e2 : N * 256 ||| x = N * 256 + x := by
    have := Nat.two_pow_add_eq_or_of_lt (i := 8) (b := x) (by simpa using hx) N
    simp only [Nat.reducePow] at this
    rw [Nat.mul_comm, ← this]
  rw [e2] at e
  simpa using e
theorem numB_lt (d : List Nat) (h : ∀ x ∈ d, x < 256) : numB d < 256 ^ d.length := by
  have key : ∀ (d : List Nat) (n m : Nat), (∀ x ∈ d, x < 256) → n < m → d.foldl (fun n x => n * 256 + x) n < m * 256 ^ d.length := by
    intro d
    induction d with
    | nil => intro n m _ h; simpa using h
    | cons a d ih =>
      intro n m h hn
      have ha := h a (by simp)
      have := ih (n * 256 + a) (m * 256) (fun x hx => h x (by simp [hx])) (by omega)
      rw [List.foldl_cons, List.length_cons, Nat.pow_succ, Nat.mul_comm (256 ^ d.length), ← Nat.mul_assoc]
      exact this
  have h9 := key d 0 1 h (by omega)
  rw [Nat.one_mul] at h9
  exact h9
theorem take_lt {d : List Nat} (h : ∀ x ∈ d, x < 256) (k : Nat) : ∀ x ∈ d.take k, x < 256 := fun x hx => h x (List.mem_of_mem_take hx)
set_option maxHeartbeats 800000 in
theorem numof_any (b o n cap : Nat) (bs : List Nat) (w : World) (hn : bs.length = n) (h4 : n ≤ 4) (hlt : ∀ x ∈ bs, x < 256) (hc : ∀ i, i < n → w.cell? ⟨b, o + i, none⟩ = some (.int .u8 (bs.getD i 0 : Int))) :
    Calls Tryz.prog 118 #[.slice (some ⟨b, o, none⟩) n cap] w fun e w' => e = .returned (.int .i64 (numB bs : Int)) ∧ w' = w := by
  have HC := hide hc
  have HL := hide hlt
  have HN := hide hn
  clear hc hlt hn
  go_enter Tryz.func118, Tryz.ntmps118
  go_wp2
  go_loop [3, 8] (fun u i => ∃ k N : Nat, k ≤ n ∧ i = .int .i64 k ∧ u = .int .i64 (N : Int) ∧ Hid (N = numB (bs.take k))) (fun _ i => n - (intOf i).toNat)
  case atStart => exact ⟨0, 0, Nat.zero_le _, rfl, rfl, rfl⟩
  case round =>
    obtain ⟨k, N, hk, rfl, rfl, HNK⟩ := hrel
    by_cases hlt : k < n
    · have hkl : k < bs.length := by rw [HN.out]; exact hlt
      have ck := HC.out k hlt
      have zk := World.block_lt_of_cell? w _ ck
      simp only at zk
      have hx : bs.getD k 0 < 256 := getD_lt256 HL.out k
      have hN : N < 16777216 := by
        have h9 := numB_lt (bs.take k) (take_lt HL.out k)
        rw [← HNK.out, List.length_take, Nat.min_eq_left (by omega)] at h9
        have h8 : (256 : Nat) ^ k ≤ 256 ^ 3 := Nat.pow_le_pow_right (by omega) (by omega)
        simp only [Nat.reducePow] at h8
        omega
      have HNN : Hid (N * 256 + bs.getD k 0 = numB (bs.take (k + 1))) := by
        show _ = _
        rw [List.take_succ_eq_append_getElem hkl, numB_snoc, ← HNK.out, List.getD_eq_getElem?_getD, List.getElem?_eq_getElem hkl]; rfl
      have hor := shl_or N (bs.getD k 0) hN hx
      generalize bs.getD k 0 = x at *
      clear HNK
      have hk0 : (0 : Int) ≤ (k : Int) := Int.natCast_nonneg _
      have hk1 : (k : Int) < (n : Int) := by omega
      go_wp2
      exact ⟨⟨k + 1, N * 256 + x, by omega, by go_num, rfl, HNN⟩, by simp [intOf]; omega⟩
    · have hke : bs.take k = bs := List.take_of_length_le (by rw [HN.out]; omega)
      go_wp2
      go_ret
      exact ⟨ret_int (by rw [HNK.out, hke]), rfl⟩
/-- What firstUnicast answers. -/
def UniRes (w : World) (X s : Nat) (r : Option (List Nat)) (e : Ending) : Prop := match r with
  | none => e = .returned (.tuple #[.slice none 0 0, .bool false])
  | some u => ∃ b o c, e = .returned (.tuple #[.slice (some ⟨b, o, none⟩) s c, .bool true]) ∧ b ≠ X ∧ s ≤ c ∧ u.length = s ∧ (∀ x ∈ u, x < 256) ∧ ∀ i, i < s → w.cell? ⟨b, o + i, none⟩ = some (.int .u8 (u.getD i 0 : Int))
theorem str3 (w : World) (b o c : Nat) (x0 x1 x2 : Nat) (h0 : x0 < 256) (h1 : x1 < 256) (h2 : x2 < 256) (c0 : w.cell? ⟨b, o, none⟩ = some (.int .u8 (x0 : Int))) (c1 : w.cell? ⟨b, o + 1, none⟩ = some (.int .u8 (x1 : Int))) (c2 : w.cell? ⟨b, o + 2, none⟩ = some (.int .u8 (x2 : Int))) :
    (convert 22 9 (.slice (some ⟨b, o, none⟩) 3 c)).run Tryz.prog w = .ok (.string ⟨#[UInt8.ofNat x0, UInt8.ofNat x1, UInt8.ofNat x2]⟩) w := by
  have e : ∀ x, x < 256 → (UInt8.ofNat x).toNat = x := fun x hx => by simp; omega
  refine run_convert_bytes_back (P := Tryz.prog) w 22 9 5 ⟨b, o, none⟩ c [UInt8.ofNat x0, UInt8.ofNat x1, UInt8.ofNat x2] Tryz.underlying22 Tryz.underlying5 Tryz.underlying9 (fun j hj => ?_)
  match j, hj with
  | 0, _ => show w.cell? _ = some (.int .u8 (((UInt8.ofNat x0).toNat : Nat) : Int)); rw [e x0 h0]; simpa [Addr.add] using c0
  | 1, _ => show w.cell? _ = some (.int .u8 (((UInt8.ofNat x1).toNat : Nat) : Int)); rw [e x1 h1]; simpa [Addr.add] using c1
  | 2, _ => show w.cell? _ = some (.int .u8 (((UInt8.ofNat x2).toNat : Nat) : Int)); rw [e x2 h2]; simpa [Addr.add] using c2
theorem take3 {r : List Nat} (h : 3 ≤ r.length) : r.take 3 = [r.getD 0 0, r.getD 1 0, r.getD 2 0] := by
  match r, h with
  | a :: b :: c :: _, _ => rfl
theorem str3_eq (x0 x1 x2 : Nat) (h0 : x0 < 256) (h1 : x1 < 256) (h2 : x2 < 256) : ((⟨#[UInt8.ofNat x0, UInt8.ofNat x1, UInt8.ofNat x2]⟩ : ByteArray) = ⟨#[0, 1, 1]⟩) ↔ [x0, x1, x2] = [0, 1, 1] := by
  have e : ∀ x, x < 256 → (UInt8.ofNat x).toNat = x := fun x hx => by simp; omega
  constructor
  · intro h
    simp only [ByteArray.mk.injEq, Array.mk.injEq, List.cons.injEq, and_true] at h
    have k0 := congrArg UInt8.toNat h.1
    have k1 := congrArg UInt8.toNat h.2.1
    have k2 := congrArg UInt8.toNat h.2.2
    rw [e _ h0] at k0
    rw [e _ h1] at k1
    rw [e _ h2] at k2
    rw [k0, k1, k2]; rfl
  · intro h
    simp only [List.cons.injEq, and_true] at h
    rw [h.1, h.2.1, h.2.2]; rfl
set_option maxHeartbeats 1600000 in
theorem fstu_any (X : Nat) (a : Option Addr) (c : Nat) (bs : List Nat) (s : Nat) (w : World) (hs : 3 ≤ s) (hs2 : s ≤ 7) (hl : bs.length ≤ 10000) (hcap : bs.length ≤ c) (h : BRd w a bs) (hne : ∀ x, a = some x → 0 < bs.length → x.block ≠ X) :
    Calls Tryz.prog 120 #[.slice a bs.length c, .int .i64 (s : Int)] w fun e w' => UniRes w X s (fstU s bs) e ∧ w' = w := by
  have HB0 := hide h
  have HX0 := hide hne
  clear h hne
  go_enter Tryz.func120, Tryz.ntmps120
  go_wp2
  go_loop [0] (fun u => ∃ (rest : List Nat) (a : Option Addr) (n c : Nat), u = .slice a n c ∧ Hid (rest.length = n) ∧ n ≤ c ∧ n ≤ 10000 ∧ Hid (fstU s bs = fstU s rest) ∧ Hid (BRd w a rest) ∧ Hid (∀ x, a = some x → 0 < n → x.block ≠ X)) (fun u => sliceLen u)
  case atStart => exact ⟨bs, a, _, c, rfl, rfl, hcap, hl, rfl, HB0, HX0⟩
  case round =>
    obtain ⟨rest, a1, n, c1, rfl, HN, hnc, hn, HF, HB, HX⟩ := hrel
    by_cases hlt : n < s
    · have HU : Hid (UniRes w X s (fstU s bs) (.returned (.tuple #[.slice none 0 0, .bool false]))) := by
        show UniRes _ _ _ _ _
        rw [HF.out, fstU_end (by rw [HN.out]; exact hlt)]; rfl
      go_wp2
      go_ret2
      exact ⟨HU.out, rfl⟩
    · obtain ⟨b, o, rfl, hc⟩ := HB.out.1.2 (by rw [HN.out]; omega)
      have HC := hide hc
      have hr3 : 3 ≤ rest.length := by rw [HN.out]; omega
      have x0 := hc 0 (by omega)
      have x1 := hc 1 (by omega)
      have x2 := hc 2 (by omega)
      have hcv := str3 w b o c1 (rest.getD 0 0) (rest.getD 1 0) (rest.getD 2 0) (getD_lt256 HB.out.2 0) (getD_lt256 HB.out.2 1) (getD_lt256 HB.out.2 2) x0 x1 x2
      have HQ := hide (str3_eq (rest.getD 0 0) (rest.getD 1 0) (rest.getD 2 0) (getD_lt256 HB.out.2 0) (getD_lt256 HB.out.2 1) (getD_lt256 HB.out.2 2))
      rw [← take3 hr3] at HQ
      have HR3 := hide hr3
      clear hc x0 x1 x2 hr3
      generalize (⟨#[UInt8.ofNat (rest.getD 0 0), UInt8.ofNat (rest.getD 1 0), UInt8.ofNat (rest.getD 2 0)]⟩ : ByteArray) = S at *
      by_cases hq : S = ⟨#[0, 1, 1]⟩
      · have HU : Hid (UniRes w X s (fstU s bs) (.returned (.tuple #[.slice (some ⟨b, o, none⟩) s c1, .bool true]))) := by
          show UniRes _ _ _ _ _
          rw [HF.out, fstU_hit (by rw [HN.out]; exact hlt) (HQ.out.1 hq)]
          refine ⟨b, o, c1, rfl, HX.out _ rfl (by omega), by omega, by rw [List.length_take, HN.out]; omega, take_lt HB.out.2 s, fun i hi => ?_⟩
          have h9 : w.cell? ⟨b, o + i, none⟩ = some (.int .u8 (rest.getD i 0 : Int)) := HC.out i (by rw [HN.out]; omega)
          rw [h9, List.getD_eq_getElem?_getD, List.getD_eq_getElem?_getD, List.getElem?_take_of_lt hi]
        clear HF HB HC HQ
        subst hq
        go_wp2
        go_ret2
        exact ⟨HU.out, rfl⟩
      · have HF2 : Hid (fstU s bs = fstU s (rest.drop s)) := by
          show _ = _
          rw [HF.out, fstU_miss (by omega) (by rw [HN.out]; exact hlt) (fun h => hq (HQ.out.2 h))]
        have HN2 : Hid ((rest.drop s).length = n - s) := by show _ = _; rw [List.length_drop, HN.out]
        have hq2 : (S.toList == [0, 1, 1]) = false := by
          rw [ByteArray.toList_eq, Bool.eq_false_iff]
          intro h9
          refine hq ?_
          obtain ⟨⟨l⟩⟩ := S
          rw [show l = [0, 1, 1] from by simpa using h9]
        have hns : (s : Int) ≤ (n : Int) := by omega
        clear HF HQ hq
        by_cases hcs : c1 = s
        · have HB2 : Hid (BRd w (some ⟨b, o, none⟩) (rest.drop s)) := by
            have h0 : rest.drop s = [] := List.drop_eq_nil_of_le (by rw [HN.out]; omega)
            show BRd _ _ _
            rw [h0]
            exact ⟨Rw.nil _ _ _, by simp⟩
          have hcs2 := hcs.symm
          subst hcs2
          go_wp2
          exact ⟨⟨rest.drop s, _, _, _, rfl, by show (rest.drop s).length = 0; rw [HN2.out]; omega, by omega, by omega, HF2, HB2, fun x _ h0 => absurd h0 (by omega)⟩, by simp [sliceLen]; omega⟩
        · have HB2 : Hid (BRd w (some ⟨b, o + s, none⟩) (rest.drop s)) := by
            refine ⟨⟨by unfold maxLen; rw [HN2.out]; omega, fun _ => ⟨b, o + s, rfl, fun i hi => ?_⟩⟩, fun x hx => HB.out.2 x (List.mem_of_mem_drop hx)⟩
            rw [HN2.out] at hi
            have h9 : w.cell? ⟨b, o + (s + i), none⟩ = some (.int .u8 (rest.getD (s + i) 0 : Int)) := HC.out (s + i) (by rw [HN.out]; omega)
            rw [← Nat.add_assoc] at h9
            show _ = some (Value.int .u8 (((rest.drop s).getD i 0 : Nat) : Int))
            rw [h9, List.getD_eq_getElem?_getD, List.getD_eq_getElem?_getD, List.getElem?_drop]
          go_wp2
          exact ⟨⟨rest.drop s, _, _, _, rfl, HN2, by omega, by omega, HF2, HB2, fun x hx _ => by cases hx; exact HX.out ⟨b, o, none⟩ rfl (by omega)⟩, by simp [sliceLen]; omega⟩
end Go.Proofs.YtkmfnafecdfedaaGreatDoor
