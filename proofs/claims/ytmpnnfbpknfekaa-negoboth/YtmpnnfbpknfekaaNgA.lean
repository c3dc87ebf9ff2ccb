/- Our OPEN, and how long both wait: the program's and the document's; four bytes. -/
import Derived.Test.YtmpnnfbpknfekaaNgV
namespace Go.Proofs.Ytmpnnfbpknfekaa
open Go.RowKit
set_option maxRecDepth 100000

/-- Our OPEN. -/
def oursO (c : Cf) (rs fwd : Bool) : Opn := ⟨c.asn, c.hold, c.id, true, c.asn, true, rs, if c.gr ≤ 4095 then c.gr else 4095, true, fwd, true, c.ll⟩
theorem below_two (w : World) (o p : Obj) : Below w.heap.size w ((w.alloc o).alloc p) := ((Below.refl _ _).alloc (Nat.le_refl _) _).alloc (by simp) _
set_option maxHeartbeats 1600000 in
theorem rours_any (c : Cf) (rs fwd : Bool) (w : World) : Calls Try.prog 9 #[cfV c, .bool rs, .bool fwd] w fun e w' => e = .returned (opV (oursO c rs fwd)) ∧ Below w.heap.size w w' := by
  obtain ⟨asn, id, next, hold, gr, ll, stale, dfr⟩ := c
  simp only [cfV, opV, oursO]
  by_cases hg : gr ≤ 4095
  · have hn : ¬ 4095 < gr := by omega
    rw [if_pos hg]
    go_enter Try.func9, Try.ntmps9
    go_wp2
    refine bodyPost_ret (v := opV ⟨asn, hold, id, true, asn, true, rs, gr, true, fwd, true, ll⟩) (by simp [opV, results, Try.results9, go_sem]) rfl ⟨rfl, below_two _ _ _⟩
  · have hn : 4095 < gr := by omega
    rw [if_neg hg]
    go_enter Try.func9, Try.ntmps9
    go_wp2
    refine bodyPost_ret (v := opV ⟨asn, hold, id, true, asn, true, rs, 4095, true, fwd, true, ll⟩) (by simp [opV, results, Try.results9, go_sem]) rfl ⟨rfl, below_two _ _ _⟩
set_option maxHeartbeats 1600000 in
theorem pours_any (c : Cf) (rs fwd : Bool) (w : World) : Calls Try.prog 8 #[cfV c, .bool rs, .bool fwd] w fun e w' => e = .returned (opV (oursO c rs fwd)) ∧ Below w.heap.size w w' := by
  obtain ⟨asn, id, next, hold, gr, ll, stale, dfr⟩ := c
  simp only [cfV, opV, oursO]
  by_cases hg : gr ≤ 4095
  · have hn : ¬ 4095 < gr := by omega
    rw [if_pos hg]
    go_enter Try.func8, Try.ntmps8
    go_wp2
    all_goals refine bodyPost_ret (v := opV ⟨asn, hold, id, true, asn, true, rs, gr, true, fwd, true, ll⟩) (by simp [opV, results, Try.results8, go_sem]) rfl ⟨rfl, below_two _ _ _⟩
  · have hn : 4095 < gr := by omega
    rw [if_neg hg]
    go_enter Try.func8, Try.ntmps8
    go_wp2
    all_goals refine bodyPost_ret (v := opV ⟨asn, hold, id, true, asn, true, rs, 4095, true, fwd, true, ll⟩) (by simp [opV, results, Try.results8, go_sem]) rfl ⟨rfl, below_two _ _ _⟩
/-- The lesser Hold. -/
def lessH (c : Cf) (o : Opn) : Int := if c.hold < o.hold then c.hold else o.hold
set_option maxHeartbeats 1600000 in
theorem phold_any (c : Cf) (o : Opn) (w : World) : Calls Try.prog 13 #[cfV c, opV o] w fun e w' => e = .returned (.int .i64 (lessH c o)) ∧ Below w.heap.size w w' := by
  obtain ⟨asn, id, next, hold, gr, ll, stale, dfr⟩ := c
  obtain ⟨oa, oh, oi, o0, o1, o2, o3, o4, o5, o6, o7, o8⟩ := o
  simp only [cfV, opV, lessH]
  by_cases hg : hold < oh
  · have hn : hold ≤ oh := by omega
    rw [if_pos hg]
    go_enter Try.func13, Try.ntmps13
    go_wp2
    all_goals (go_ret; exact ⟨rfl, below_two _ _ _⟩)
  · rw [if_neg hg]
    go_enter Try.func13, Try.ntmps13
    go_wp2
    all_goals first
      | (go_ret; exact ⟨rfl, below_two _ _ _⟩)
      | (have he : hold = oh := by omega
         subst he
         go_ret
         exact ⟨rfl, below_two _ _ _⟩)
set_option maxHeartbeats 1600000 in
theorem rhold_any (c : Cf) (o : Opn) (w : World) : Calls Try.prog 14 #[cfV c, opV o] w fun e w' => e = .returned (.int .i64 (lessH c o)) ∧ Below w.heap.size w w' := by
  obtain ⟨asn, id, next, hold, gr, ll, stale, dfr⟩ := c
  obtain ⟨oa, oh, oi, o0, o1, o2, o3, o4, o5, o6, o7, o8⟩ := o
  simp only [cfV, opV, lessH]
  by_cases hg : hold < oh
  · rw [if_pos hg]
    go_enter Try.func14, Try.ntmps14
    go_wp2
    go_ret
    exact ⟨rfl, below_two _ _ _⟩
  · rw [if_neg hg]
    go_enter Try.func14, Try.ntmps14
    go_wp2
    go_ret
    exact ⟨rfl, below_two _ _ _⟩
set_option maxHeartbeats 1600000 in
theorem pfour_any (a : Int) (w : World) : Calls Try.prog 17 #[.int .i64 a] w fun e w' => e = .returned (.slice (some ⟨w.heap.size, 0, none⟩) 6 6) ∧ w' = w.alloc (.cells #[.int .u8 65, .int .u8 4, .int .u8 (a / 16777216 % 256), .int .u8 (a / 65536 % 256), .int .u8 (a / 256 % 256), .int .u8 (a % 256)] 5) := by
  go_enter Try.func17, Try.ntmps17
  go_wp2
  go_ret
  exact ⟨rfl, rfl⟩
set_option maxHeartbeats 1600000 in
theorem rfour_n (a : Int) (w : World) : Calls Try.prog 18 #[.int .i64 a] w fun e w' => e = .returned (.slice (some ⟨w.heap.size, 0, none⟩) 4 4) ∧ w' = w.alloc (.cells #[.int .u8 (a / 16777216 % 256), .int .u8 (a / 65536 % 256), .int .u8 (a / 256 % 256), .int .u8 (a % 256)] 5) := by
  go_enter Try.func18, Try.ntmps18
  go_wp2
  go_ret
  exact ⟨rfl, rfl⟩
end Go.Proofs.Ytmpnnfbpknfekaa
