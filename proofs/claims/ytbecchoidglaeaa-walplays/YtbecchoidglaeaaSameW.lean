/- 'same' of the law: both disks have the same sectors. -/
import Derived.Test.YtbecchoidglaeaaBoth
import Derived.Deep.QuietTactic
import Derived.BigQuiet
namespace Go.Proofs.Ytbecchoidglaeaa
open Go.RowKit
set_option maxRecDepth 100000

set_option maxRecDepth 100000 in
set_option maxHeartbeats 1600000 in
theorem sames_any {N : Nat} {w : World} {D V B : Nat} {s : St} {F W P : Nat → Prop} (hp : Pair w D V s s F W P (fun _ => False) B) (hg : Good N s) (hn : s.n ≤ 1024) :
    Calls Try.prog 22 #[.pointer (some ⟨D, 0, none⟩), .pointer (some ⟨V, 0, none⟩)] w fun e w' => e = .returned (.bool true) ∧ Below w.heap.size w w' := by
  have HP := hide hp
  have HG := hide hg
  obtain ⟨sa, sc, hc0, hsec⟩ := hp.r.sectors
  have HS := hide hsec
  clear hp hg hsec
  go_enter Try.func22, Try.ntmps22
  go_wp2_with fail
  go_quiet ((go_at_call 31; refine Calls.quiet_of_same (disk_len (HP.out.d.later ⟨rfl, rfl, rfl, Nat.le_refl _, fun _ _ => rfl⟩))))
  go_wp2
  go_loopw [5] (fun i wq => ∃ k : Nat, k ≤ s.n ∧ i = .int .i64 k ∧ Below w.heap.size w wq) (fun i _ => s.n - (intOf i).toNat)
  case atStart => exact ⟨0, Nat.zero_le _, rfl, ⟨rfl, rfl, rfl, Nat.le_refl _, fun _ _ => rfl⟩⟩
  case round =>
    obtain ⟨k, hk, rfl, hb⟩ := hrel
    have HB := hide hb
    have x0 : wr.cell? ⟨V, 0, none⟩ = some (.slice sa s.n sc) := by
      rw [(Keeps.of_below hb (fun _ => False)).cell _ HP.out.r.V.2 (fun h => h)]; exact hc0
    clear hb hc0
    by_cases hlt : k < s.n
    · have hk0 : (0 : Int) ≤ (k : Int) := Int.natCast_nonneg _
      have hk1 : (k : Int) < (s.n : Int) := by omega
      have HK := hide hlt
      go_wp2_with fail
      refine (disk_read (HP.out.later HB.out).d (k : Int) hk0 hk1).mono ?_
      rintro e w2 ⟨b2, rfl, hr2, hle2, hb2⟩
      have B2 : Hid (Below w.heap.size w w2) := HB.out.trans (below_le hb2 HB.out.size)
      have R2 := hide hr2
      clear hr2 hle2 hb2
      go_wp2_with fail
      refine (disk_lasts (HP.out.later B2.out).d (k : Int) hk0 hk1).mono ?_
      rintro e w3 ⟨b3, rfl, hr3, hle3, hb3⟩
      have B3 : Hid (Below w.heap.size w w3) := B2.out.trans (below_le hb3 B2.out.size)
      have R2' := hide (R2.out.below hb3)
      have R3 := hide hr3
      clear hr3 hle3 hb3
      go_wp2_with fail
      refine (rdisk_read (HP.out.later B3.out).r (k : Int) hk0 hk1).mono ?_
      rintro e w4 ⟨a4, c4, rfl, hr4, rfl⟩
      have R4 := hide hr4
      clear hr4
      go_wp2_with fail
      refine (same_any _ _ 64 64 c4 _ _ _ R2'.out R4.out (fun j _ => by rw [show s.now = _ from HG.out.1])).mono ?_
      rintro e w5 ⟨rfl, hb5⟩
      have B5 : Hid (Below w.heap.size w w5) := B3.out.trans (below_le hb5 B3.out.size)
      have R3' := hide (R3.out.below hb5)
      obtain ⟨g, bb, off, cc, rfl, hgc, hgr⟩ := HS.out k hlt
      have y0 : w5.cell? ⟨V, 0, none⟩ = some (.slice (some ⟨g, 0, none⟩) s.n sc) := by
        rw [(Keeps.of_below B5.out (fun _ => False)).cell _ HP.out.r.V.2 (fun h => h)]
        rw [(Keeps.of_below HB.out (fun _ => False)).cell _ HP.out.r.V.2 (fun h => h)] at x0
        exact x0
      have y1 : w5.cell? ⟨g, k, none⟩ = some (.slice (some ⟨bb, off, none⟩) 64 cc) := by
        rw [(Keeps.of_below B5.out (fun _ => False)).cell _ (World.block_lt_of_cell? w _ hgc) (fun h => h)]; exact hgc
      have R6 := hide (hgr.below B5.out)
      clear hb5 hgc hgr
      go_wp2_with fail
      refine (same_any _ _ 64 64 cc _ _ _ R3'.out R6.out (fun j _ => rfl)).mono ?_
      rintro e w6 ⟨rfl, hb6⟩
      have B6 : Hid (Below w.heap.size w w6) := B5.out.trans (below_le hb6 B5.out.size)
      clear hb6
      go_wp2
      exact ⟨⟨k + 1, by omega, by go_num, B6.out⟩, by simp [intOf]; omega⟩
    · have hk1 : ¬ (k : Int) < (s.n : Int) := by omega
      go_wp2
      go_ret
      exact ⟨rfl, HB.out⟩
end Go.Proofs.Ytbecchoidglaeaa
