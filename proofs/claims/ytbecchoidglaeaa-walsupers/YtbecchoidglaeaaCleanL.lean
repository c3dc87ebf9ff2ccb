/- Clean, on a disk with power of which nothing is loose. -/
import Derived.Test.YtbecchoidglaeaaRegB
namespace Go.Proofs.Ytbecchoidglaeaa
open Go.RowKit
set_option maxRecDepth 100000

/-- What Clean leaves on a disk with power. -/
theorem cleans_live {s : St} (hm : Made s) (hv : Live s) (lo : Nat) : ∀ k, (cleans s lo k).1.2 = 0 ∧ Live (cleans s lo k).1.1 ∧ Made (cleans s lo k).1.1 ∧
    (∀ i j, j < 64 → (cleans s lo k).1.1.now i j = if lo ≤ i ∧ i < lo + k then 0 else s.now i j) ∧ ((cleans s lo k).2 = false → (cleans s lo k).1.1 = s)
  | 0 => ⟨rfl, hv, hm, fun i j _ => by rw [if_neg (by omega)]; rfl, fun _ => rfl⟩
  | k + 1 => by
    obtain ⟨h1, h2, h3, h4, h5⟩ := cleans_live hm hv lo k
    cases hz : allZ ((cleans s lo k).1.1.now (lo + k)) 64 with
    | true =>
      rw [cleans_zero h1 hz]
      refine ⟨h1, h2, h3, fun i j hj => ?_, h5⟩
      rw [h4 i j hj]
      by_cases e : i = lo + k
      · have := (allZ_iff _ _).1 hz j hj
        rw [← e, h4 i j hj, if_neg (by omega)] at this
        rw [if_neg (by omega), if_pos (by omega), this]
      · by_cases e2 : lo ≤ i ∧ i < lo + k
        · rw [if_pos e2, if_pos (by omega)]
        · rw [if_neg e2, if_neg (by omega)]
    | false =>
      rw [cleans_wr h1 hz]
      obtain ⟨w1, w2⟩ := h2.wr (lo + k) (fill (fun _ => 0) 0)
      refine ⟨w1, w2, made_wr h3 _ _, fun i j hj => ?_, fun h => by cases h⟩
      show ((cleans s lo k).1.1.wr (lo + k) (fill (fun _ => 0) 0)).1.now i j = _
      rw [(wr_ok w1).2]
      show putPage (cleans s lo k).1.1.now (lo + k) 64 (fill (fun _ => 0) 0) i j = _
      unfold putPage
      by_cases e : i = lo + k
      · rw [if_pos ⟨e, hj⟩, if_pos (by omega)]
        unfold fill
        rw [if_neg (by omega)]
      · rw [if_neg (fun h => e h.1), h4 i j hj]
        by_cases e2 : lo ≤ i ∧ i < lo + k
        · rw [if_pos e2, if_pos (by omega)]
        · rw [if_neg e2, if_neg (by omega)]
theorem clean_live {s : St} (hs : Still s) (hv : Live s) (lo m : Nat) : (s.clean lo m).2 = 0 ∧ Still (s.clean lo m).1 ∧ ∀ i j, j < 64 → (s.clean lo m).1.now i j = if lo ≤ i ∧ i < lo + m then 0 else s.now i j := by
  obtain ⟨h1, h2, h3, h4, h5⟩ := cleans_live (still_made hs) hv lo m
  cases hz : (cleans s lo m).2 with
  | true =>
    rw [clean_done1 h1 hz]
    refine ⟨h2.fl.1, ?_, ?_⟩
    · rw [fl_ok h2.fl.1]; exact still_flush h3
    · rw [fl_ok h2.fl.1]; exact h4
  | false =>
    rw [clean_done0 h1 hz]
    refine ⟨h1, ?_, h4⟩
    rw [h5 hz]; exact hs
end Go.Proofs.Ytbecchoidglaeaa
