/- Layer 3's example 'answers'. -/
import Derived.Test.YtolbifboibjgcaaRegB
import Derived.Test.YtolbifboibjgcaaRegR
import Derived.Lib.SlBytesConst
import Derived.BigQuiet
namespace Go.Proofs.Ytolbifboibjgcaa
open Go.RowKit

theorem hi_cells (w : World) (i : Nat) (hi : i < 2) : (w.alloc (Obj.cells #[Value.int .u8 104, Value.int .u8 105] 5 (2, 3))).cell? ⟨w.heap.size, 0 + i, none⟩ = some (.int .u8 ((104 + i : Nat) : Int)) := by
  rw [World.cell?_alloc_mark]
  match i, hi with
  | 0, _ | 1, _ => rfl
theorem RowsRd.first {w : World} {v : Value} {L : Nat → Nat} {G : Nat → Nat → Nat} (h : RowsRd w v 1 L G) : ∃ g c b d, v = .slice (some ⟨g, 0, none⟩) 1 c ∧ w.cell? ⟨g, 0, none⟩ = some (.slice b (L 0) d) ∧ Rw w b (L 0) (G 0) := by
  obtain ⟨a, c, rfl, _, hp⟩ := h
  obtain ⟨g, rfl, hc⟩ := hp (by omega)
  obtain ⟨b, d, h1, h2⟩ := hc 0 (by omega)
  exact ⟨g, c, b, d, rfl, h1, h2⟩
set_option maxRecDepth 100000 in
set_option maxHeartbeats 1600000 in
theorem answers_any (w : World) :
    Calls Try.prog 8 #[] w fun e w' => e = .returned (.bool true) ∧ Below w.heap.size w w' := by
  have kc := fun (w : World) (C : Array Value) (n c : Nat) => Lib.run_convert_bytes_const (P := Try.prog) w 39 5 C n c Try.underlying39 Try.underlying5
  go_enter Try.func8, Try.ntmps8
  go_wp2_with fail
  refine (new_any 6 _ (by omega)).mono ?_
  rintro e w1 ⟨D, F, rfl, hd, hF, hb⟩
  rw [show (clamp 6 1024).toNat = 6 from rfl] at hd
  have HD := hide hd
  have HF := hide hF
  have HB := hide hb
  clear hd hF hb
  go_wp2_with fail
  have hb2 : Below w1.heap.size w1 (w1.alloc (Obj.cells #[Value.int .u8 104, Value.int .u8 105] 5 (2, 3))) := (Below.refl _ _).alloc (Nat.le_refl _) _
  have HB2 := hide hb2
  have hft : fit 6 1 6 2 = true := by decide
  have HFT := hide hft
  clear hb2 hft
  refine (lay_in (HD.out.later HB2.out) 1 7 6 _ 2 _ (fun i => 104 + i) (by omega) (by omega) (by omega) ⟨by decide, fun _ => ⟨_, _, rfl, fun i hi => hi_cells w1 i hi⟩⟩ (fun i hi => by show 104 + i < 256; omega) (fun x hx _ hf => by injection hx with hx; subst hx; have := HD.out.lt _ hf; simp at this) (by show 6 ≤ 1024; omega) (by show 0 < 800000; omega) HFT.out).mono ?_
  rintro e w2 ⟨rfl, F2, hd2, hst2⟩
  have hlv := ((live_new 6).lay 1 7 (fun i => 104 + i) 2).1
  rw [layNext_good hlv, hlv]
  have hbt := (bts_made 6).layd 1 7 (f := fun i => 104 + i) (len := 2) (fun i hi => by show 104 + i < 256; omega)
  obtain ⟨T, hT⟩ : ∃ T, T = ((St.made 6).lay 1 (ent 7 (fun i => 104 + i) 2) (cnt 2)).1 := ⟨_, rfl⟩
  obtain ⟨t1, t2, t3, t4, _, t5, _⟩ := lay_new 6 1 7 6 (fun i => 104 + i) 2 (by omega) (by omega) HFT.out hT
  rw [← hT] at hd2 hbt
  have HD2 := hide hd2
  have HS2 := hide hst2
  have HT := hide (And.intro t1 (And.intro t2 (And.intro t3 (And.intro t4 (And.intro t5 hbt)))))
  clear hT hd2 hst2 t1 t2 t3 t4 t5 hbt hlv
  rw [show ((1 : Nat) : Int) + ((cnt 2 : Nat) : Int) = 3 from by decide, show ((0 : Nat) : Int) = 0 from rfl]
  go_wp2_with fail
  refine (scan_in HD2.out 1 7 6 (by omega) (by rw [HT.out.2.2.2.2.1]; omega) (by rw [HT.out.2.2.2.2.1]; omega) HT.out.2.2.2.2.2.byt).mono ?_
  rintro e w3 ⟨⟨K, v, hK, rfl, hrows⟩, hb3⟩
  obtain rfl : K = 1 := found_one hK HT.out.1
  rw [HT.out.2.1, show ((1 + cnt 2 : Nat) : Int) = 3 from by decide]
  obtain ⟨g, c, b, d, rfl, hgc, hrw⟩ := (hrows.rd (by omega)).first
  have hp0 : lenAt T (pos T 1 0) = 2 := HT.out.2.2.1
  rw [hp0] at hgc hrw
  obtain ⟨bb, off, rfl, hcc⟩ := hrw.2 (by omega)
  have r0 : w3.cell? ⟨bb, off, none⟩ = some (.int .u8 104) := by
    have := hcc 0 (by omega)
    rw [Nat.add_zero] at this
    rw [this, show runs T (pos T 1 0 + 1) 0 = 104 from HT.out.2.2.2.1 0 (by omega)]; rfl
  have r1 : w3.cell? ⟨bb, off + 1, none⟩ = some (.int .u8 105) := by
    rw [hcc 1 (by omega), show runs T (pos T 1 0 + 1) 1 = 105 from HT.out.2.2.2.1 1 (by omega)]; rfl
  have ks : (convert 39 9 (.slice (some ⟨bb, off, none⟩) 2 d)).run Try.prog w3 = .ok (.string ⟨#[104, 105]⟩) w3 :=
    run_convert_bytes_back w3 39 9 5 ⟨bb, off, none⟩ d [104, 105] Try.underlying39 Try.underlying5 Try.underlying9 (fun j hj => by
      match j, hj with
      | 0, _ => rw [Addr.add_mid]; exact r0
      | 1, _ => rw [Addr.add_mid]; exact r1)
  have HB3 := hide hb3
  clear r0 r1 hcc hrw hrows hb3 hK hp0
  go_wp2_with fail
  refine (size_any 2 _ (by omega)).mono ?_
  rintro e w4 ⟨rfl, rfl⟩
  rw [show ((cnt (Int.toNat 2) : Nat) : Int) = 2 from by decide]
  go_wp2
  go_ret
  have hs := HB.out.size
  have h12 : Below w.heap.size w1 w2 := (below_le HB2.out hs).trans (HS2.out.1.below _ (by have := HB2.out.size; omega) HF.out)
  exact ⟨rfl, (HB.out.trans h12).trans (below_le HB3.out (by have := (HB.out.trans h12).size; omega))⟩
end Go.Proofs.Ytolbifboibjgcaa
