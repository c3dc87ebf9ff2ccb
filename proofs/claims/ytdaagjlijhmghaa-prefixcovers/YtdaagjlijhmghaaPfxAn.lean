/- Covers of any two; 'answers'. -/
import Derived.Test.YtdaagjlijhmghaaPfxCv
import Derived.Test.YtdaagjlijhmghaaPfxCn
import Derived.Test.YtdaagjlijhmghaaPfxEc
import Derived.Deep.RegionHeld3
namespace Go.Proofs.Ytdaagjlijhmghaa
open Go.RowKit
set_option maxRecDepth 100000

theorem covers_any (A B : Nat) (L M : Int) (w : World) (hA : A < 4294967296) (hB : B < 4294967296) :
    Calls Try.prog 13 #[pfx A L, pfx B M] w fun e w' => e = .returned (.bool (covB A L B M)) ∧ Below w.heap.size w w' := by
  cases h : rightB A L with
  | false => rw [covB_left h]; exact covers_no A B L M w hA h
  | true =>
    obtain ⟨n, rfl, hn, _⟩ := rightB_len h
    exact covers_yes A n B M w hA hB h hn
theorem ten_cut : cutTo 167838211 8 = 167772160 := by decide
theorem ten_right : rightB 167772160 8 = true := by decide
theorem ten_cov : covB 167772160 8 167772160 8 = true := by decide
theorem ten_enc : encAll [(167772160, 8)] = [8, 10] := by
  simp only [encAll, ten_right, if_true]
  rfl
theorem ten_dec : decRun (fun i => [8, 10].getD i 0) 2 0 [] = some [(167772160, 8)] := by
  have h := dec_enc [(167772160, 8)] (by intro x hx; simp at hx; subst hx; decide) [] []
  rw [ten_enc] at h
  have e : rights [(167772160, 8)] = [(167772160, 8)] := by
    simp only [rights, ten_right, if_true]
    rfl
  rw [e] at h
  exact h
theorem encode_ten (g c : Nat) (w : World) (e0 : w.cell? ⟨g, 0, none⟩ = some (.int .u32 167772160)) (e1 : w.cell? ⟨g, 1, none⟩ = some (.int .i64 8)) :
    Calls Try.prog 16 #[.slice (some ⟨g, 0, none⟩) 1 c] w fun e w' => ∃ g' c', e = .returned (.slice (some ⟨g', 0, none⟩) 2 c') ∧ Below w.heap.size w w' := by
  refine (encode_any (some ⟨g, 0, none⟩) c [(167772160, 8)] w (by simp) ⟨fun _ => ⟨g, 0, rfl, fun i p hp => ?_⟩, fun x hx => ?_⟩).mono ?_
  · cases i with
    | zero => simp at hp; subst hp; exact ⟨e0, e1⟩
    | succ i => simp at hp
  · simp at hx; subst hx; decide
  · rintro e w' ⟨v, rfl, ho, hb⟩
    rw [ten_enc] at ho
    obtain ⟨g', c', rfl, _, _⟩ := ho.form (by simp)
    exact ⟨g', c', rfl, hb⟩
set_option maxHeartbeats 3200000 in
theorem answers_any (w : World) : Calls Try.prog 10 #[] w fun e w' => e = .returned (.bool true) ∧ Below w.heap.size w w' := by
  go_enter Try.func10, Try.ntmps10
  go_wp2_with fail
  refine (make_in 167838211 8 _ (by omega) (by omega)).mono ?_
  rw [ten_cut]
  rintro e w1 ⟨rfl, hb1⟩
  have HB1 := hide hb1
  clear hb1
  unfold pfx
  go_wp2_with fail
  refine (decode_any _ 2 2 (fun i => [8, 10].getD i 0) _ (by omega) (by omega) (fun j hj => by
    have : j = 0 ∨ j = 1 := by omega
    rcases this with rfl | rfl <;> decide) ⟨by unfold maxLen; omega, fun _ => ⟨w1.heap.size + 1, 0, by simp, fun j hj => by
      have : j = 0 ∨ j = 1 := by omega
      rcases this with rfl | rfl <;> simp [go_sem]⟩⟩).mono ?_
  rw [ten_dec]
  rintro e w2 ⟨⟨v, rfl, ho⟩, hb2⟩
  obtain ⟨g, c, rfl, hg, hgl⟩ := ho.form (by simp)
  have c0 : w2.cell? ⟨w1.heap.size, 0, none⟩ = some (.int .u32 167772160) := by rw [hb2.cell (p := ⟨w1.heap.size, 0, none⟩) (by simp <;> omega)]; simp [go_sem]
  have c1 : w2.cell? ⟨w1.heap.size, 1, none⟩ = some (.int .i64 8) := by rw [hb2.cell (p := ⟨w1.heap.size, 1, none⟩) (by simp <;> omega)]; simp [go_sem]
  have e0 : w2.cell? ⟨g, 0, none⟩ = some (.int .u32 167772160) := by rw [ho.cellAt 0 (by simp)]; rfl
  have e1 : w2.cell? ⟨g, 1, none⟩ = some (.int .i64 8) := by rw [ho.cellAt 1 (by simp)]; rfl
  have HB2 : Hid (Below w.heap.size w w2) := (HB1.out.alloc HB1.out.size _).alloc (by have := HB1.out.size; simp; omega) _ |>.trans (hb2.mono (by have := HB1.out.size; simp; omega))
  clear hb2 ho hg hgl
  go_wp2_with fail
  first
  | fail
  | (go_region_held3 (fun w' => w'.cell? ⟨w1.heap.size, 0, none⟩ = some (.int .u32 167772160) ∧ w'.cell? ⟨w1.heap.size, 1, none⟩ = some (.int .i64 8) ∧ w'.cell? ⟨g, 0, none⟩ = some (.int .u32 167772160) ∧ w'.cell? ⟨g, 1, none⟩ = some (.int .i64 8))
      (first
        | (go_split_ands; refine ⟨?_, ?_, ?_, ?_⟩ <;> (first | assumption | (simp only [World.cell?_drew]; assumption))))
      (first
        | (go_at_call 13; refine (covers_any 167772160 167772160 8 8 _ (by omega) (by omega)).mono ?_; rw [ten_cov]; rintro e w3 ⟨rfl, hb3⟩
           have c03 : w3.cell? ⟨w1.heap.size, 0, none⟩ = some (.int .u32 167772160) := (by rw [World.cell?_of_block (w := w2) (hb3.block _ (World.block_lt_of_cell? w2 _ c0))]; exact c0)
           have c13 : w3.cell? ⟨w1.heap.size, 1, none⟩ = some (.int .i64 8) := (by rw [World.cell?_of_block (w := w2) (hb3.block _ (World.block_lt_of_cell? w2 _ c1))]; exact c1)
           have e03 : w3.cell? ⟨g, 0, none⟩ = some (.int .u32 167772160) := (by rw [World.cell?_of_block (w := w2) (hb3.block _ (World.block_lt_of_cell? w2 _ e0))]; exact e0)
           have e13 : w3.cell? ⟨g, 1, none⟩ = some (.int .i64 8) := (by rw [World.cell?_of_block (w := w2) (hb3.block _ (World.block_lt_of_cell? w2 _ e1))]; exact e1)
           have HB3 : Hid (Below w.heap.size w w3) := HB2.out.drew.trans (hb3.mono HB2.out.drew.size)
           clear hb3)
        | (go_at_call 16; refine (encode_ten g c _ e03 e13).mono ?_; rintro e w4 ⟨g4, c4, rfl, hb4⟩
           have c04 : w4.cell? ⟨w1.heap.size, 0, none⟩ = some (.int .u32 167772160) := (by rw [hb4.cell (p := ⟨w1.heap.size, 0, none⟩) (World.block_lt_of_cell? w3 _ c03)]; exact c03)
           have c14 : w4.cell? ⟨w1.heap.size, 1, none⟩ = some (.int .i64 8) := (by rw [hb4.cell (p := ⟨w1.heap.size, 1, none⟩) (World.block_lt_of_cell? w3 _ c13)]; exact c13)
           have e04 : w4.cell? ⟨g, 0, none⟩ = some (.int .u32 167772160) := (by rw [hb4.cell (p := ⟨g, 0, none⟩) (World.block_lt_of_cell? w3 _ e03)]; exact e03)
           have e14 : w4.cell? ⟨g, 1, none⟩ = some (.int .i64 8) := (by rw [hb4.cell (p := ⟨g, 1, none⟩) (World.block_lt_of_cell? w3 _ e13)]; exact e13)
           have HB4 : Hid (Below w.heap.size w w4) := HB3.out.trans (hb4.mono HB3.out.size)
           clear hb4)))
  go_wp2
  go_ret
  exact ⟨rfl, HB4.out⟩
end Go.Proofs.Ytdaagjlijhmghaa
