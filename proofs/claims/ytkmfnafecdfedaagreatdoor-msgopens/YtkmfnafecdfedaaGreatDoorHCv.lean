/- The program's Decode. -/
import Derived.Test.YtkmfnafecdfedaaGreatDoorHCt
import Derived.Laws.EntriesVeiled
namespace Go.Proofs.YtkmfnafecdfedaaGreatDoor
open Go.RowKit
set_option maxRecDepth 100000

/-- The box X of capabilities, and the two cells that lead to it. -/
structure Inv2 (X P Q : Nat) (c : Cp) (w : World) : Prop where
  box : CBox w X c
  ptr : w.cell? ⟨P, 0, none⟩ = some (.pointer (some ⟨X, 0, none⟩))
  fn : w.cell? ⟨Q, 0, none⟩ = some (.func (.func 86) #[] #[.pointer (some ⟨P, 0, none⟩)])
  hp : P ≠ X
  hq : Q ≠ X
theorem Inv2.later {X P Q : Nat} {c : Cp} {w w' : World} (h : Inv2 X P Q c w) (hb : Below w.heap.size w w') : Inv2 X P Q c w' := by
  have h1 := World.block_lt_of_cell? w _ h.ptr
  have h2 := World.block_lt_of_cell? w _ h.fn
  exact ⟨h.box.later hb, by rw [hb.cell (p := ⟨P, 0, none⟩) h1]; exact h.ptr, by rw [hb.cell (p := ⟨Q, 0, none⟩) h2]; exact h.fn, h.hp, h.hq⟩
theorem Inv2.keeps {X P Q : Nat} {c c' : Cp} {w w' : World} (h : Inv2 X P Q c w) (hk : Keeps (fun b => b = X) w w') (hx : CBox w' X c') : Inv2 X P Q c' w' := by
  have h1 := World.block_lt_of_cell? w _ h.ptr
  have h2 := World.block_lt_of_cell? w _ h.fn
  exact ⟨hx, by rw [hk.cell ⟨P, 0, none⟩ h1 h.hp]; exact h.ptr, by rw [hk.cell ⟨Q, 0, none⟩ h2 h.hq]; exact h.fn, h.hp, h.hq⟩
theorem inner_any (X P Q : Nat) (a : Option Addr) (cap : Nat) (bs : List Nat) (c : Cp) (w : World) (hl : bs.length ≤ 10000) (hcap : bs.length ≤ cap) (hr : BRd w a bs) (hF : ∀ x, a = some x → 0 < bs.length → x.block ≠ X) (hi : Inv2 X P Q c w) :
    Calls Tryz.prog 62 #[.slice a bs.length cap, .func (.func 86) #[] #[.pointer (some ⟨P, 0, none⟩)]] w fun e w' => TookI (Inv2 X P Q) (eachC readOne bs c) e w' ∧ Keeps (fun b => b = X) w w' :=
  each_inv readOne 86 #[.pointer (some ⟨P, 0, none⟩)] (Inv2 X P Q) (fun b => b = X) a cap bs c w hl hcap hr hF hi Tryz.call86 (fun _ _ _ h hb => h.later hb) (fun w1 c1 k a1 cap1 vs _ hi1 hr1 hx1 hv hc1 _ =>
    (take1_any X P c1 k a1 cap1 vs w1 hi1.ptr hi1.box hr1 hx1 (by omega) hc1).mono fun e w2 ⟨ht, hk⟩ => ⟨by
      cases h : readOne k vs c1 with
      | none => rw [h] at ht; exact ht
      | some c2 => rw [h] at ht; exact ⟨ht.1, hi1.keeps hk ht.2⟩, hk⟩)
theorem tooki_of {Inv : Cp → World → Prop} {r : Option Cp} {e : Ending} {w : World} (h : TookI Inv r e w) : ∃ z : Bool, e = .returned (.bool z) ∧ TookI Inv r (.returned (.bool z)) w := by
  cases r with
  | none => exact ⟨false, h, rfl⟩
  | some c => exact ⟨true, h.1, rfl, h.2⟩
set_option maxHeartbeats 1600000 in
theorem dec1_any (X P Q : Nat) (a : Option Addr) (cap : Nat) (bs : List Nat) (c : Cp) (k : Nat) (w : World) (hl : bs.length ≤ 10000) (hcap : bs.length ≤ cap) (hr : BRd w a bs) (hF : ∀ x, a = some x → 0 < bs.length → x.block ≠ X) (hi : Inv2 X P Q c w) :
    Calls Tryz.prog 63 #[.int .i64 (k : Int), .slice a bs.length cap, .pointer (some ⟨Q, 0, none⟩)] w fun e w' => TookI (Inv2 X P Q) (readPar k bs c) e w' ∧ Keeps (fun b => b = X) w w' := by
  have hq := hi.fn
  have hqs := World.block_lt_of_cell? w _ hq
  simp only at hqs
  have HI := hide (inner_any X P Q a cap bs c w hl hcap hr hF hi)
  by_cases h2 : k = 2
  · subst h2
    have HE : Hid (readPar 2 bs c = eachC readOne bs c) := rfl
    generalize readPar 2 bs c = rp at *
    generalize eachC readOne bs c = ro at *
    clear hr hF hi hl hcap
    generalize bs.length = n at *
    go_enter Tryz.func63, Tryz.ntmps63
    go_wp2_with fail
    refine HI.out.mono ?_
    rintro e w1 ⟨ht, hk⟩
    obtain ⟨z, rfl, ht⟩ := tooki_of ht
    have HT := hide ht
    have HK := hide hk
    clear ht hk
    go_wp2
    go_ret
    exact ⟨by rw [HE.out]; exact HT.out, HK.out⟩
  · have HE : Hid (readPar k bs c = none) := by show _ = _; unfold readPar; rw [if_neg h2]
    generalize readPar k bs c = rp at *
    clear hr hF hi hl hcap HI
    generalize bs.length = n at *
    have h2i : ((k : Int) == 2) = false := by simp; omega
    clear h2
    go_enter Tryz.func63, Tryz.ntmps63
    go_wp2
    go_ret
    exact ⟨by rw [HE.out]; rfl, Keeps.refl _ _⟩
theorem outer_any (X P Q : Nat) (a : Option Addr) (cap : Nat) (bs : List Nat) (c : Cp) (w : World) (hl : bs.length ≤ 10000) (hcap : bs.length ≤ cap) (hr : BRd w a bs) (hF : ∀ x, a = some x → 0 < bs.length → x.block ≠ X) (hi : Inv2 X P Q c w) :
    Calls Tryz.prog 62 #[.slice a bs.length cap, .func (.func 63) #[] #[.pointer (some ⟨Q, 0, none⟩)]] w fun e w' => TookI (Inv2 X P Q) (eachC readPar bs c) e w' ∧ Keeps (fun b => b = X) w w' :=
  each_inv readPar 63 #[.pointer (some ⟨Q, 0, none⟩)] (Inv2 X P Q) (fun b => b = X) a cap bs c w hl hcap hr hF hi Tryz.call63 (fun _ _ _ h hb => h.later hb) (fun w1 c1 k a1 cap1 vs _ hi1 hr1 hx1 hv hc1 _ =>
    dec1_any X P Q a1 cap1 vs c1 k w1 (by omega) hc1 hr1 hx1 hi1)
set_option maxHeartbeats 800000 in
theorem take_any (X : Nat) (w : World) : Calls Tryz.prog 61 #[.pointer (some ⟨X, 0, none⟩)] w fun e w' => e = .returned (.func (.func 86) #[] #[.pointer (some ⟨w.heap.size, 0, none⟩)]) ∧ w' = w.alloc (.cells #[.pointer (some ⟨X, 0, none⟩)] 93) := by
  go_enter Tryz.func61, Tryz.ntmps61
  go_wp2
  go_ret
  exact ⟨rfl, rfl⟩
end Go.Proofs.YtkmfnafecdfedaaGreatDoor
/- The program's Decode. -/
namespace Go.Proofs.YtkmfnafecdfedaaGreatDoor
open Go.RowKit
set_option maxRecDepth 100000

/-- No capabilities. -/
def zeroC : Obj := .cells #[.bool false, .int .i64 0, .bool false, .bool false, .int .i64 0, .bool false, .bool false, .bool false, .int .i64 0] 26
theorem zero_box (w : World) : BoxC (w.alloc zeroC) w.heap.size cp0 := BoxC.new w cp0
/-- The world when reading begins. -/
def decW (w : World) : World := (((w.alloc zeroC).alloc zeroC).alloc (.cells #[.pointer (some ⟨w.heap.size + 1, 0, none⟩)] 93)).alloc (.cells #[.func (.func 86) #[] #[.pointer (some ⟨w.heap.size + 1 + 1, 0, none⟩)]] 117)
theorem decW_below (w : World) : Below w.heap.size w (decW w) := by
  unfold decW
  exact ((((Below.refl w.heap.size w).alloc (Nat.le_refl _) _).alloc (by simp) _).alloc (by simp only [World.size_alloc]; omega) _).alloc (by simp only [World.size_alloc]; omega) _
theorem decW_inv (w : World) : Inv2 (w.heap.size + 1) (w.heap.size + 1 + 1) (w.heap.size + 1 + 1 + 1) cp0 (decW w) := by
  unfold decW
  refine ⟨⟨?_, fun j => ?_⟩, ?_, ?_, by omega, by omega⟩
  · have h1 := zero_box (w.alloc zeroC)
    simp only [World.size_alloc] at h1
    refine h1.block ?_
    rw [heap_alloc_old _ _ (by simp only [World.size_alloc]; omega), heap_alloc_old _ _ (by simp only [World.size_alloc]; omega)]
  · have e : ∀ (W : World) (o : Obj) (b : Nat), b < W.heap.size → (W.alloc o).frozen? ⟨b, j, none⟩ = W.frozen? ⟨b, j, none⟩ := fun W o b hb => World.frozen?_of_block (heap_alloc_old W o hb)
    rw [e _ _ _ (by simp only [World.size_alloc]; omega), e _ _ _ (by simp only [World.size_alloc]; omega)]
    unfold zeroC
    have := World.frozen?_alloc_mark (w.alloc zeroC) #[.bool false, .int .i64 0, .bool false, .bool false, .int .i64 0, .bool false, .bool false, .bool false, .int .i64 0] 26 0 0 j
    simp only [World.size_alloc] at this
    unfold zeroC at this
    rw [this]
    simp
  · have := World.cell?_alloc_mark ((w.alloc zeroC).alloc zeroC) #[.pointer (some ⟨w.heap.size + 1, 0, none⟩)] 93 (0, 0) 0
    simp only [World.size_alloc] at this
    rw [World.cell?_alloc_lt _ _ _ (by simp only [World.size_alloc]; omega), this]
    rfl
  · have := World.cell?_alloc_mark (((w.alloc zeroC).alloc zeroC).alloc (.cells #[.pointer (some ⟨w.heap.size + 1, 0, none⟩)] 93)) #[.func (.func 86) #[] #[.pointer (some ⟨w.heap.size + 1 + 1, 0, none⟩)]] 117 (0, 0) 0
    simp only [World.size_alloc] at this
    rw [this]
    rfl
theorem decW_res (w : World) : BoxC (decW w) w.heap.size cp0 ∧ ∀ j, (decW w).frozen? ⟨w.heap.size, j, none⟩ = false := by
  have hb : (decW w).heap[w.heap.size]? = (w.alloc zeroC).heap[w.heap.size]? := by
    unfold decW
    rw [heap_alloc_old _ _ (by simp only [World.size_alloc]; omega), heap_alloc_old _ _ (by simp only [World.size_alloc]; omega), heap_alloc_old _ _ (by simp only [World.size_alloc]; omega)]
  refine ⟨(zero_box w).block hb, fun j => ?_⟩
  rw [World.frozen?_of_block hb]
  have := World.frozen?_alloc_mark w #[.bool false, .int .i64 0, .bool false, .bool false, .int .i64 0, .bool false, .bool false, .bool false, .int .i64 0] 26 0 0 j
  unfold zeroC
  rw [this]
  simp
/-- What Decode answers. -/
def decV (r : Option Cp) : Value := .tuple #[capV (r.getD cp0), .bool r.isSome]
set_option maxHeartbeats 3200000 in
theorem decc_any (a : Option Addr) (cap : Nat) (bs : List Nat) (w : World) (hl : bs.length ≤ 10000) (hcap : bs.length ≤ cap) (hr : BRd w a bs) :
    Calls Tryz.prog 40 #[.slice a bs.length cap] w fun e w' => e = .returned (decV (readC bs)) ∧ Below w.heap.size w w' := by
  have hrD := hr.below (decW_below w)
  have HO := hide (outer_any (w.heap.size + 1) (w.heap.size + 1 + 1) (w.heap.size + 1 + 1 + 1) a cap bs cp0 (decW w) hl hcap hrD (fun x hx hp => by
    have := hr.1.lt x hx hp
    omega) (decW_inv w))
  have HR := hide (decW_res w)
  have HBD := hide (decW_below w)
  have HRC : Hid (readC bs = eachC readPar bs cp0) := rfl
  generalize readC bs = rc at *
  rw [← HRC.out] at HO
  clear HRC hr hrD hl hcap
  generalize bs.length = n at *
  go_enter Tryz.func40, Tryz.ntmps40
  go_wp2_with fail
  refine (take_any _ _).mono ?_
  rintro e w1 ⟨rfl, hw1⟩
  subst hw1
  go_wp2_with fail
  refine HO.out.mono ?_
  rintro e w5 ⟨ht, hk⟩
  have HB5 : Hid (Below w.heap.size w w5) := HBD.out.trans (hk.below w.heap.size HBD.out.size (fun b hb => by omega))
  have hb9 : w5.heap[w.heap.size]? = (decW w).heap[w.heap.size]? := hk.block _ (by unfold decW; simp only [World.size_alloc]; omega) (by omega)
  have hR := HR.out.1.block hb9
  have hF : ∀ j, w5.frozen? ⟨w.heap.size, j, none⟩ = false := fun j => by rw [World.frozen?_of_block hb9]; exact HR.out.2 j
  have hRs := hR.size
  obtain ⟨r0, r1, r2, r3, r4, r5, r6, r7, r8⟩ := hR
  have f0 := hF 0
  have f1 := hF 1
  have f2 := hF 2
  have f3 := hF 3
  have f4 := hF 4
  have f5 := hF 5
  have f6 := hF 6
  have f7 := hF 7
  have f8 := hF 8
  unfold cp0 at r0 r1 r2 r3 r4 r5 r6 r7 r8
  simp only at r0 r1 r2 r3 r4 r5 r6 r7 r8
  clear hk hb9 HR HBD HO hF
  cases rc with
  | none =>
    obtain rfl : e = _ := ht
    go_wp2_with fail
    refine bodyPost_ret (v := .tuple #[.agg #[.bool false, .int .i64 0, .bool false, .bool false, .int .i64 0, .bool false, .bool false, .bool false, .int .i64 0], .bool false]) (by simp [results, Tryz.results40, go_sem, r0, r1, r2, r3, r4, r5, r6, r7, r8]) rfl ⟨rfl, ?_⟩
    exact ((((((((HB5.out.setCell (Nat.le_refl _) _).setCell (Nat.le_refl _) _).setCell (Nat.le_refl _) _).setCell (Nat.le_refl _) _).setCell (Nat.le_refl _) _).setCell (Nat.le_refl _) _).setCell (Nat.le_refl _) _).setCell (Nat.le_refl _) _).setCell (Nat.le_refl _) _
  | some c =>
    obtain ⟨rfl, hi⟩ := ht
    obtain ⟨x0, x1, x2, x3, x4, x5, x6, x7, x8⟩ := hi.box.cells
    have hXs := hi.box.size
    clear hi
    obtain ⟨four, as4, gr, rs, tm, fam, fwd, ll, lt⟩ := c
    simp only at x0 x1 x2 x3 x4 x5 x6 x7 x8
    go_wp2_with fail
    refine bodyPost_ret (v := .tuple #[.agg #[.bool four, .int .i64 as4, .bool gr, .bool rs, .int .i64 tm, .bool fam, .bool fwd, .bool ll, .int .i64 lt], .bool true]) (by simp [results, Tryz.results40, go_sem, r0, r1, r2, r3, r4, r5, r6, r7, r8]) rfl ⟨rfl, ?_⟩
    exact ((((((((HB5.out.setCell (Nat.le_refl _) _).setCell (Nat.le_refl _) _).setCell (Nat.le_refl _) _).setCell (Nat.le_refl _) _).setCell (Nat.le_refl _) _).setCell (Nat.le_refl _) _).setCell (Nat.le_refl _) _).setCell (Nat.le_refl _) _).setCell (Nat.le_refl _) _
end Go.Proofs.YtkmfnafecdfedaaGreatDoor
