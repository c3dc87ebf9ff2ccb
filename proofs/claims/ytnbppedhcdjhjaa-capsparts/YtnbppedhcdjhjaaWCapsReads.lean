/- CapsReads' walk. -/
import Derived.Test.YtnbppedhcdjhjaaCpAn
import Derived.Test.YtnbppedhcdjhjaaCpM
namespace Go.Proofs.Ytnbppedhcdjhjaa
open Go.RowKit
set_option maxRecDepth 100000

/-- A row that came in, as a list. -/
theorem brd_row {w : World} {a : Option Addr} {len cap : Nat} {zs : List Int} (h : IsRow .u8 w a len cap zs) : ∃ bs : List Nat, bs.length = len ∧ len ≤ cap ∧ BRd w a bs := by
  have hrow := rw_of h
  have hlc : len ≤ cap := by
    rcases h with ⟨_, h1, h2, _⟩ | ⟨x, _, h1, _⟩
    · omega
    · exact h1
  obtain ⟨hw, hf⟩ := hrow
  refine ⟨(List.range len).map (fun i => (zs.getD i 0).toNat), by simp, hlc, ?_, fun x hx => ?_⟩
  · rw [show ((List.range len).map (fun i => (zs.getD i 0).toNat)).length = len from by simp]
    exact hw.congr (fun i hi => by simp [List.getD_eq_getElem?_getD, hi])
  · obtain ⟨i, hi, rfl⟩ := List.mem_map.1 hx
    exact hf i (by simpa using hi)
set_option maxHeartbeats 3200000 in
theorem creads_in (a : Option Addr) (cap : Nat) (bs : List Nat) (w : World) (hl : bs.length ≤ 2000) (hcap : bs.length ≤ cap) (hr : BRd w a bs) :
    Calls Try.prog 4 #[.slice a bs.length cap] w fun e w' => e = .returned (.bool true) ∧ Below w.heap.size w w' := by
  have HD := hide (decc_any a cap bs w (by omega) hcap hr)
  have HR := hide (fun (W : World) (hb : Below w.heap.size w W) => rreadc_any a cap bs W (by omega) hcap (hr.below hb))
  have HG : Hid ((readC bs).isSome = true → goodC ((readC bs).getD cp0) = true) := fun h => by
    cases hc : readC bs with
    | none => rw [hc] at h; cases h
    | some c => exact readC_good bs hr.2 c hc
  have d2 : decide ((2000 : Int) < (bs.length : Int)) = false := decide_eq_false (by omega)
  unfold decV at *
  generalize (readC bs).isSome = z at *
  generalize (readC bs).getD cp0 = c at *
  have HGC := hide (fun W => goodc_any c W)
  clear hr hcap hl
  generalize bs.length = n at *
  generalize goodC c = gc at *
  obtain ⟨wb1, hwb1⟩ : ∃ f : World → World, f = fun W => W.alloc (.cells (capC c) 23) := ⟨_, rfl⟩
  have HBX : Hid (∀ W X, Below (wb1 W).heap.size (wb1 W) X → BoxC X W.heap.size c ∧ W.heap.size < X.heap.size) := fun W X hb => by
    have h1 : BoxC (wb1 W) W.heap.size c := by rw [hwb1]; exact BoxC.new W c
    have h2 := h1.block (hb.block _ (by rw [hwb1]; simp))
    exact ⟨h2, h2.size⟩
  have HBW : Hid (∀ W, Below W.heap.size W (wb1 W)) := fun W => by show Below _ _ _; rw [hwb1]; exact below_new _ _
  have HWB : Hid (∀ W, W.alloc (.cells (capC c) 23) = wb1 W) := fun W => by show _ = _; rw [hwb1]
  clear hwb1
  obtain ⟨four, as4, gr, rs, tm, fam, fwd, ll, lt⟩ := c
  unfold capV BoxC capC at *
  simp only at *
  go_enter Try.func4, Try.ntmps4
  go_wp2_with fail
  refine HD.out.mono ?_
  rintro e w1 ⟨rfl, hb1⟩
  have HB1 := hide hb1
  clear hb1 HD
  go_wp2_with fail
  rw [HWB.out w1]
  have HBA : Hid (Below w.heap.size w (wb1 w1)) := HB1.out.trans ((HBW.out w1).mono HB1.out.size)
  refine (HR.out _ HBA.out).mono ?_
  rintro e w2 ⟨rfl, hb2⟩
  have HC1 : Hid (∀ X, Below w2.heap.size w2 X → _) := fun X hb => HBX.out w1 X (hb2.trans (hb.mono hb2.size))
  have HB2 : Hid (Below w.heap.size w w2) := HBA.out.trans (hb2.mono HBA.out.size)
  clear hb2 HR
  go_wp2_with fail
  rw [HWB.out w2]
  have HBC : Hid (Below w.heap.size w (wb1 w2)) := HB2.out.trans ((HBW.out w2).mono HB2.out.size)
  refine (ans_any (wb1 w2)).mono ?_
  rintro e w3 ⟨rfl, hb3⟩
  obtain ⟨⟨y0, y1, y2, y3, y4, y5, y6, y7, y8⟩, hy⟩ := HBX.out w2 w3 hb3
  obtain ⟨⟨x0, x1, x2, x3, x4, x5, x6, x7, x8⟩, hx⟩ := HC1.out w3 ((HBW.out w2).trans (hb3.mono (HBW.out w2).size))
  have HB3 : Hid (Below w.heap.size w w3) := HBC.out.trans (hb3.mono HBC.out.size)
  clear hb3
  cases z with
  | false =>
    go_wp2
    go_ret
    exact ⟨rfl, HB3.out⟩
  | true =>
    have hg : gc = true := HG.out rfl
    subst hg
    go_wp2_with fail
    refine (HGC.out w3).mono ?_
    rintro e w4 ⟨rfl, hb4⟩
    have HB4 : Hid (Below w.heap.size w w4) := HB3.out.trans (hb4.mono HB3.out.size)
    clear hb4
    go_wp2
    go_ret
    exact ⟨rfl, HB4.out⟩
theorem capsReads_walk (a0 : Option Addr) (len0 cap0 : Nat) (z0 : List Int) (w : World) (w0 : IsRow .u8 w a0 len0 cap0 z0) : Calls Try.prog 4 #[.slice a0 len0 cap0] w fun e w' => e = .returned (.bool true) ∧ Below w.heap.size w w' := by
  obtain ⟨bs, rfl, hlc, hr⟩ := brd_row w0
  clear w0
  by_cases hlen : 2000 < bs.length
  · clear hr hlc
    generalize bs.length = n at *
    go_enter Try.func4, Try.ntmps4
    go_wp2_with fail
    refine (ans_any _).mono ?_
    rintro e w1 ⟨rfl, hb⟩
    have HB := hide hb
    clear hb
    go_wp2
    go_ret
    exact ⟨rfl, HB.out⟩
  · exact creads_in a0 cap0 bs w (by omega) hlc hr
end Go.Proofs.Ytnbppedhcdjhjaa
