/- The program's Decode. -/
import Derived.Test.YtnbppedhcdjhjaaCpV
namespace Go.Proofs.Ytnbppedhcdjhjaa
open Go.RowKit
set_option maxRecDepth 100000

/-- No capabilities. -/
def zeroC : Obj := .cells #[.bool false, .int .i64 0, .bool false, .bool false, .int .i64 0, .bool false, .bool false, .bool false, .int .i64 0] 23
theorem zero_box (w : World) : BoxC (w.alloc zeroC) w.heap.size cp0 := BoxC.new w cp0
/-- The world when reading begins. -/
def decW (w : World) : World := (((w.alloc zeroC).alloc zeroC).alloc (.cells #[.pointer (some ⟨w.heap.size + 1, 0, none⟩)] 41)).alloc (.cells #[.func (.func 29) #[] #[.pointer (some ⟨w.heap.size + 1 + 1, 0, none⟩)]] 39)
theorem decW_below (w : World) : Below w.heap.size w (decW w) := by
  unfold decW
  exact ((((Below.refl w.heap.size w).alloc (Nat.le_refl _) _).alloc (by simp) _).alloc (by simp only [World.size_alloc]; omega) _).alloc (by simp only [World.size_alloc]; omega) _
theorem decW_inv (w : World) : Inv2 (w.heap.size + 1) (w.heap.size + 1 + 1) (w.heap.size + 1 + 1 + 1) cp0 (decW w) := by
  unfold decW
  refine ⟨⟨?_, fun j => ?_⟩, ?_, ?_, by omega, by omega⟩
  · have h1 := zero_box (w.alloc zeroC)
    simp only [World.size_alloc] at h1
    refine h1.block ?_
    rw [heap_alloc_old _ _ (by simp only [World.size_alloc]; omega), heap_alloc_old _ _ (by simp only [World.size_alloc]; omega)]
  · have e : ∀ (W : World) (o : Obj) (b : Nat), b < W.heap.size → (W.alloc o).frozen? ⟨b, j, none⟩ = W.frozen? ⟨b, j, none⟩ := fun W o b hb => World.frozen?_of_block (heap_alloc_old W o hb)
    rw [e _ _ _ (by simp only [World.size_alloc]; omega), e _ _ _ (by simp only [World.size_alloc]; omega)]
    unfold zeroC
    have := World.frozen?_alloc_mark (w.alloc zeroC) #[.bool false, .int .i64 0, .bool false, .bool false, .int .i64 0, .bool false, .bool false, .bool false, .int .i64 0] 23 0 0 j
    simp only [World.size_alloc] at this
    unfold zeroC at this
    rw [this]
    simp
  · have := World.cell?_alloc_mark ((w.alloc zeroC).alloc zeroC) #[.pointer (some ⟨w.heap.size + 1, 0, none⟩)] 41 (0, 0) 0
    simp only [World.size_alloc] at this
    rw [World.cell?_alloc_lt _ _ _ (by simp only [World.size_alloc]; omega), this]
    rfl
  · have := World.cell?_alloc_mark (((w.alloc zeroC).alloc zeroC).alloc (.cells #[.pointer (some ⟨w.heap.size + 1, 0, none⟩)] 41)) #[.func (.func 29) #[] #[.pointer (some ⟨w.heap.size + 1 + 1, 0, none⟩)]] 39 (0, 0) 0
    simp only [World.size_alloc] at this
    rw [this]
    rfl
theorem decW_res (w : World) : BoxC (decW w) w.heap.size cp0 ∧ ∀ j, (decW w).frozen? ⟨w.heap.size, j, none⟩ = false := by
  have hb : (decW w).heap[w.heap.size]? = (w.alloc zeroC).heap[w.heap.size]? := by
    unfold decW
    rw [heap_alloc_old _ _ (by simp only [World.size_alloc]; omega), heap_alloc_old _ _ (by simp only [World.size_alloc]; omega), heap_alloc_old _ _ (by simp only [World.size_alloc]; omega)]
  refine ⟨(zero_box w).block hb, fun j => ?_⟩
  rw [World.frozen?_of_block hb]
  have := World.frozen?_alloc_mark w #[.bool false, .int .i64 0, .bool false, .bool false, .int .i64 0, .bool false, .bool false, .bool false, .int .i64 0] 23 0 0 j
  unfold zeroC
  rw [this]
  simp
/-- What Decode answers. -/
def decV (r : Option Cp) : Value := .tuple #[capV (r.getD cp0), .bool r.isSome]
set_option maxHeartbeats 3200000 in
theorem decc_any (a : Option Addr) (cap : Nat) (bs : List Nat) (w : World) (hl : bs.length ≤ 10000) (hcap : bs.length ≤ cap) (hr : BRd w a bs) :
    Calls Try.prog 13 #[.slice a bs.length cap] w fun e w' => e = .returned (decV (readC bs)) ∧ Below w.heap.size w w' := by
  have hrD := hr.below (decW_below w)
  have HO := hide (outer_any (w.heap.size + 1) (w.heap.size + 1 + 1) (w.heap.size + 1 + 1 + 1) a cap bs cp0 (decW w) hl hcap hrD (fun x hx hp => by
    have := hr.1.lt x hx hp
    omega) (decW_inv w))
  have HR := hide (decW_res w)
  have HBD := hide (decW_below w)
  have HRC : Hid (readC bs = eachC readPar bs cp0) := rfl
  generalize readC bs = rc at *
  rw [← HRC.out] at HO
  clear HRC hr hrD hl hcap
  generalize bs.length = n at *
  go_enter Try.func13, Try.ntmps13
  go_wp2_with fail
  refine (take_any _ _).mono ?_
  rintro e w1 ⟨rfl, hw1⟩
  subst hw1
  go_wp2_with fail
  refine HO.out.mono ?_
  rintro e w5 ⟨ht, hk⟩
  have HB5 : Hid (Below w.heap.size w w5) := HBD.out.trans (hk.below w.heap.size HBD.out.size (fun b hb => by omega))
  have hb9 : w5.heap[w.heap.size]? = (decW w).heap[w.heap.size]? := hk.block _ (by unfold decW; simp only [World.size_alloc]; omega) (by omega)
  have hR := HR.out.1.block hb9
  have hF : ∀ j, w5.frozen? ⟨w.heap.size, j, none⟩ = false := fun j => by rw [World.frozen?_of_block hb9]; exact HR.out.2 j
  have hRs := hR.size
  obtain ⟨r0, r1, r2, r3, r4, r5, r6, r7, r8⟩ := hR
  have f0 := hF 0
  have f1 := hF 1
  have f2 := hF 2
  have f3 := hF 3
  have f4 := hF 4
  have f5 := hF 5
  have f6 := hF 6
  have f7 := hF 7
  have f8 := hF 8
  unfold cp0 at r0 r1 r2 r3 r4 r5 r6 r7 r8
  simp only at r0 r1 r2 r3 r4 r5 r6 r7 r8
  clear hk hb9 HR HBD HO hF
  cases rc with
  | none =>
    obtain rfl : e = _ := ht
    go_wp2_with fail
    refine bodyPost_ret (v := .tuple #[.agg #[.bool false, .int .i64 0, .bool false, .bool false, .int .i64 0, .bool false, .bool false, .bool false, .int .i64 0], .bool false]) (by simp [results, Try.results13, go_sem, r0, r1, r2, r3, r4, r5, r6, r7, r8]) rfl ⟨rfl, ?_⟩
    exact ((((((((HB5.out.setCell (Nat.le_refl _) _).setCell (Nat.le_refl _) _).setCell (Nat.le_refl _) _).setCell (Nat.le_refl _) _).setCell (Nat.le_refl _) _).setCell (Nat.le_refl _) _).setCell (Nat.le_refl _) _).setCell (Nat.le_refl _) _).setCell (Nat.le_refl _) _
  | some c =>
    obtain ⟨rfl, hi⟩ := ht
    obtain ⟨x0, x1, x2, x3, x4, x5, x6, x7, x8⟩ := hi.box.cells
    have hXs := hi.box.size
    clear hi
    obtain ⟨four, as4, gr, rs, tm, fam, fwd, ll, lt⟩ := c
    simp only at x0 x1 x2 x3 x4 x5 x6 x7 x8
    go_wp2_with fail
    refine bodyPost_ret (v := .tuple #[.agg #[.bool four, .int .i64 as4, .bool gr, .bool rs, .int .i64 tm, .bool fam, .bool fwd, .bool ll, .int .i64 lt], .bool true]) (by simp [results, Try.results13, go_sem, r0, r1, r2, r3, r4, r5, r6, r7, r8]) rfl ⟨rfl, ?_⟩
    exact ((((((((HB5.out.setCell (Nat.le_refl _) _).setCell (Nat.le_refl _) _).setCell (Nat.le_refl _) _).setCell (Nat.le_refl _) _).setCell (Nat.le_refl _) _).setCell (Nat.le_refl _) _).setCell (Nat.le_refl _) _).setCell (Nat.le_refl _) _).setCell (Nat.le_refl _) _
end Go.Proofs.Ytnbppedhcdjhjaa
