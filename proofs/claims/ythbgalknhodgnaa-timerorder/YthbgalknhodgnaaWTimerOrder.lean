/- TimerOrder's walk. -/
import Derived.Test.YthbgalknhodgnaaTmD
import Derived.Laws.IdiomStrings
namespace Go.Proofs.Ythbgalknhodgnaa
open Go.RowKit
set_option maxRecDepth 100000

/-- The k-th name. -/
def nmO (k : Nat) : ByteArray := ⟨#[UInt8.ofNat (97 + k / 26), UInt8.ofNat (97 + k % 26)]⟩
theorem nmO_inj {i j : Nat} (hi : i < 50) (hj : j < 50) (h : nmO i = nmO j) : i = j := by
  unfold nmO at h
  simp only [ByteArray.mk.injEq, Array.mk.injEq, List.cons.injEq, and_true] at h
  obtain ⟨h1, h2⟩ := h
  have e1 := congrArg UInt8.toNat h1
  have e2 := congrArg UInt8.toNat h2
  simp only [UInt8.toNat_ofNat'] at e1 e2
  omega
/-- What is set by the first k. -/
def setO (zs : List Int) : Nat → List Nm
  | 0 => []
  | k + 1 => (nmO k, zs.getD k 0) :: setO zs k
theorem setO_mem {zs : List Int} {x : Nm} : ∀ {k : Nat}, x ∈ setO zs k → ∃ i, i < k ∧ x = (nmO i, zs.getD i 0)
  | 0, h => by cases h
  | k + 1, h => by
    rcases List.mem_cons.1 h with rfl | h
    · exact ⟨k, by omega, rfl⟩
    · obtain ⟨i, hi, e⟩ := setO_mem h
      exact ⟨i, by omega, e⟩
theorem setO_more (zs : List Int) {k : Nat} (hk : k < 50) : (nmO k, zs.getD k 0) :: delN (nmO k) (setO zs k) = setO zs (k + 1) := by
  have e : delN (nmO k) (setO zs k) = setO zs k := by
    refine List.filter_eq_self.2 fun x hx => ?_
    obtain ⟨i, hi, rfl⟩ := setO_mem hx
    rw [goneN_false (fun e => by have := nmO_inj (by omega) hk e; omega)]
    rfl
  rw [e]
  rfl
theorem setO_length (zs : List Int) : ∀ k, (setO zs k).length = k
  | 0 => rfl
  | k + 1 => by simp [setO, setO_length zs k]
section
variable {P : Program} {a : Act} {w w' : World} {K : Act → World → Prop} {Q : Exit → Act → World → Prop} {dst : Option Tmp} {ty : TypeId} {pos : String} {after : Array Edge} {gd : Option (Nat × Bool)}
theorem wp_conv {s t : TypeId} (x : Operand) (xv yv : Value) (hx : a.eval x = xv) (hr : (convert s t xv).run P w = .ok yv w) (h : K (a.put dst yv) w) : Oper.wp P { dst := dst, op := .convert s t x, type := ty, pos := pos, after := after, guard := gd } a w K Q := by
  unfold Oper.wp execOp
  simp only [hx, Sem.run_bind, hr, Result.andThen_ok, Sem.run_pure]
  exact h
end
theorem ordA : ∀ k : Nat, k < 50 → IntKind.u8.wrap (97 + IntKind.u8.wrap (IntKind.i64.wrap ((k : Int) / 26))) = ((UInt8.ofNat (97 + k / 26)).toNat : Int) := by decide
theorem ordB : ∀ k : Nat, k < 50 → IntKind.u8.wrap (97 + IntKind.u8.wrap (Int.tmod (k : Int) 26)) = ((UInt8.ofNat (97 + k % 26)).toNat : Int) := by decide
theorem ordC {z : Int} (h : (Lit.int .u16 z).wf = true) : IntKind.i64.wrap z = z ∧ 0 ≤ z ∧ z < 65536 := by
  have h2 := bounds_u16 h
  exact ⟨IntWalk.i64_in _ (by omega), by omega, by omega⟩
/-- What is left, when k have come due, the last of them at L, named B. -/
def OrdI (n k : Nat) (L : Int) (B : ByteArray) (l : List Nm) : Prop :=
  l.length + k = n ∧ (∀ x ∈ l, 0 ≤ x.2 ∧ x.2 < 65536) ∧ ∀ x ∈ l, lessN (B, L) x = true
theorem OrdI.start {zs : List Int} (n : Nat) (h : ∀ z ∈ zs, (Lit.int .u16 z).wf = true) : OrdI n 0 (-1) ⟨#[]⟩ (setO zs n) := by
  have hb : ∀ x ∈ setO zs n, 0 ≤ x.2 ∧ x.2 < 65536 := by
    intro x hx
    obtain ⟨i, hi, rfl⟩ := setO_mem hx
    show 0 ≤ zs.getD i 0 ∧ zs.getD i 0 < 65536
    rw [List.getD_eq_getElem?_getD]
    cases e : zs[i]? with
    | none => simp
    | some z => exact (ordC (h z (List.mem_of_getElem? e))).2
  refine ⟨by rw [setO_length]; rfl, hb, fun x hx => ?_⟩
  have := hb x hx
  simp only [lessN, Bool.or_eq_true, decide_eq_true_eq]
  left
  show (-1 : Int) < x.2
  omega
theorem delN_length {x : Nm} : ∀ {l : List Nm}, (l.map Prod.fst).Nodup → x ∈ l → (delN x.1 l).length + 1 = l.length
  | [], _, h => by cases h
  | y :: l, hn, h => by
    rw [List.map_cons, List.nodup_cons] at hn
    by_cases e : y.1 = x.1
    · have e2 : delN x.1 (y :: l) = delN x.1 l := by
        unfold delN
        rw [List.filter_cons_of_neg]
        rw [(goneN_iff x.1 y).2 e]
        decide
      have e3 : delN x.1 l = l := by
        refine List.filter_eq_self.2 fun z hz => ?_
        rw [goneN_false (fun e4 => hn.1 (by rw [e, ← e4]; exact List.mem_map.2 ⟨z, hz, rfl⟩))]
        rfl
      rw [e2, e3]
      rfl
    · have h1 : x ∈ l := by
        rcases List.mem_cons.1 h with rfl | h
        · exact absurd rfl e
        · exact h
      have e2 : delN x.1 (y :: l) = y :: delN x.1 l := by
        unfold delN
        rw [List.filter_cons_of_pos]
        rw [goneN_false e]
        rfl
      rw [e2, List.length_cons, List.length_cons, delN_length hn.2 h1]
theorem OrdI.next {n k : Nat} {L : Int} {B : ByteArray} {l : List Nm} (h : OrdI n k L B l) (hk : k < n) (hn : (l.map Prod.fst).Nodup) {nm : ByteArray} {m : Int} {z : Bool} {l' : List Nm} (hd : DueIs l 70000 nm m z l') :
    z = true ∧ lessN (B, L) (nm, m) = true ∧ OrdI n (k + 1) m nm l' := by
  rcases hd with ⟨h1, h2, h3, rfl⟩ | ⟨_, _, _, h4, _⟩
  · refine ⟨h1, h.2.2 _ h2.1, ?_, fun x hx => h.2.1 x (List.mem_filter.1 hx).1, fun x hx => ?_⟩
    · have := delN_length hn h2.1
      have h9 := h.1
      show (delN nm l).length + (k + 1) = n
      have h8 : (delN nm l).length + 1 = l.length := this
      omega
    · have hx2 := List.mem_filter.1 hx
      cases e : lessN (nm, m) x with
      | true => rfl
      | false =>
        have e1 := lessN_total (h2.2 x hx2.1) e
        rw [e1] at hx2
        have : goneN nm (nm, m) = true := (goneN_iff _ _).2 rfl
        rw [this] at hx2
        exact absurd hx2.2 (by decide)
  · exfalso
    have h9 := h.1
    match l, h9 with
    | [], h9 => simp at h9; omega
    | x :: _, _ =>
      have := h4 x List.mem_cons_self
      have := (h.2.1 x List.mem_cons_self).2
      omega
theorem OrdI.last {n : Nat} {L : Int} {B : ByteArray} {l : List Nm} (h : OrdI n n L B l) {nm : ByteArray} {m : Int} {z : Bool} {l' : List Nm} (hd : DueIs l 70000 nm m z l') : z = false := by
  have h9 : l = [] := by
    have := h.1
    exact List.eq_nil_of_length_eq_zero (by omega)
  subst h9
  rcases hd with ⟨_, h2, _⟩ | ⟨h1, _⟩
  · cases h2.1
  · exact h1
set_option maxHeartbeats 3200000 in
theorem timerOrder_walk (a0 : Option Addr) (n c0 : Nat) (zs : List Int) (w : World) (w0 : IsRow .u16 w a0 n c0 zs) :
    Calls Try.prog 5 #[.slice a0 n c0] w fun e w' => e = .returned (.bool true) ∧ Below w.heap.size w w' := by
  by_cases hn : n ≤ 50
  · have hnd : decide ((50 : Int) < (n : Int)) = false := decide_eq_false (by omega)
    have HR := hide w0
    clear w0
    go_enter Try.func5, Try.ntmps5
    go_wp2_with fail
    refine (new_any w).mono ?_
    rintro e w1 ⟨rfl, t1, b1⟩
    have HT1 : Hid (Tmr w1 w.heap.size (setO zs 0)) := t1
    have HB1 := hide b1
    clear t1 b1
    go_wp2
    go_loopw [4] (fun i wq => ∃ k : Nat, k ≤ n ∧ i = .int .i64 k ∧ Hid (Tmr wq w.heap.size (setO zs k)) ∧ Hid (Below w.heap.size w wq)) (fun i _ => n - (intOf i).toNat)
    case atStart => exact ⟨0, Nat.zero_le _, rfl, HT1, HB1⟩
    case round =>
      clear HT1 HB1
      obtain ⟨k, hk, rfl, HT, HB⟩ := hrel
      by_cases hkn : k < n
      · have hj0 : (0 : Int) ≤ (k : Int) := Int.natCast_nonneg _
        have hj1 : (k : Int) < (n : Int) := by omega
        have hjd : decide ((k : Int) < (n : Int)) = true := decide_eq_true hj1
        rcases HR.out with ⟨_, h, _⟩ | ⟨x, rfl, hlc, hcm, hzl, hcell, hwz⟩
        · omega
        have hzz : wr.cell? (x.add k) = some (.int .u16 (zs.getD k 0)) := by
          rw [HB.out.cell (World.block_lt_of_cell? w _ (hcell k (by omega)))]
          exact hcell k (by omega)
        go_wp2_with fail
        refine region_ord (fun W => W.cell? (x.add k) = some (.int .u16 (zs.getD k 0))) (fun k => k == 9 || k == 10 || k == 16) [0, 1, 2, 3, 4, 5, 6, 7, 8, 11, 12, 13, 14, 15, 9, 10, 16] (by kernel_rfl) (by kernel_rfl) (by rfl) (by kernel_rfl) (by simpa using hzz) ?_
        iterate 14 refine ord_q (by rfl) (by rfl) (by rfl) (fun w9 h9 => (by
          have d0 : w9.cell? (x.add k) = some (.int .u16 (zs.getD k 0)) := h9
          clear h9
          go_simp; first | done | rfl)) (by go_simp; first | done | rfl) ?_
        refine ord_l (by rfl) (by rfl) (by rfl) ?_
        go_simp
        have q1 := ordA k (by omega)
        have q2 := ordB k (by omega)
        have q3 := (ordC (hwz (zs.getD k 0) (by rw [List.getD_eq_getElem?_getD, List.getElem?_eq_getElem (by omega)]; exact List.getElem_mem _))).1
        rw [List.getD_eq_getElem?_getD] at q3
        rw [q1, q2, q3]
        have HQ3 := hide q3
        have HC : Hid (((wr.alloc (.cells #[.int .u8 ((UInt8.ofNat (97 + k / 26)).toNat : Int), .int .u8 ((UInt8.ofNat (97 + k % 26)).toNat : Int)] 5)).drew).heap[wr.heap.size]? = some (.cells #[.int .u8 ((UInt8.ofNat (97 + k / 26)).toNat : Int), .int .u8 ((UInt8.ofNat (97 + k % 26)).toNat : Int)] 5 (0, 0))) := heap_alloc_new wr _
        have HB2 : Hid (Below wr.heap.size wr (wr.alloc (.cells #[.int .u8 ((UInt8.ofNat (97 + k / 26)).toNat : Int), .int .u8 ((UInt8.ofNat (97 + k % 26)).toNat : Int)] 5)).drew) := ((Below.refl _ _).alloc (Nat.le_refl _) _).drew
        have HZ : Hid (wr.cell? (x.add k) = some (.int .u16 (zs[k]?.getD 0))) := by rw [← List.getD_eq_getElem?_getD]; exact hzz
        have hzb := World.block_lt_of_cell? wr _ hzz
        have hz0 : (x.add k).block < w.heap.size := World.block_lt_of_cell? w _ (hcell k (by omega))
        clear q1 q2 q3 hzz hwz hcell
        refine ⟨by have := HB2.out.cell hzb; exact this.trans HZ.out, ?_⟩
        generalize (wr.alloc (.cells #[.int .u8 ((UInt8.ofNat (97 + k / 26)).toNat : Int), .int .u8 ((UInt8.ofNat (97 + k % 26)).toNat : Int)] 5)).drew = w2 at *
        refine ord_l (by rfl) (by rfl) (by rfl) ?_
        refine wp_conv _ (.slice (some ⟨wr.heap.size, 0, none⟩) 2 2) (.string (nmO k)) (by rfl) (run_convert_bytes_back w2 39 9 5 ⟨wr.heap.size, 0, none⟩ 2 [UInt8.ofNat (97 + k / 26), UInt8.ofNat (97 + k % 26)] Try.underlying39 Try.underlying5 Try.underlying9 (fun j hj => ?_)) ?_
        · have h9 := HC.out
          match j, hj with
          | 0, _ => simp [World.cell?, h9, Addr.add_mid]
          | 1, _ => simp [World.cell?, h9, Addr.add_mid]
        refine ⟨(HB2.out.cell hzb).trans HZ.out, ?_⟩
        refine ord_l (by rfl) (by rfl) (by rfl) ?_
        go_simp
        have HT2 := hide (HT.out.later HB2.out)
        refine (set_any w.heap.size _ (nmO k) _ w2 HT2.out (by show 2 ≤ _; omega)).mono ?_
        rintro e w3 ⟨rfl, t3, k3⟩
        rw [← List.getD_eq_getElem?_getD, setO_more zs (by omega)] at t3
        have HT3 := hide t3
        have HB3 : Hid (Below w.heap.size w w3) := by
          show Below _ _ _
          exact (HB.out.trans (HB2.out.mono HB.out.size)).trans (k3.below _ (Nat.le_trans HB.out.size HB2.out.size) (fun x hx => by subst hx; omega))
        have hb3 : (x.add k).block < w2.heap.size := Nat.lt_of_lt_of_le hzb HB2.out.size
        have hq : w3.cell? (x.add k) = some (.int .u16 (zs[k]?.getD 0)) := by
          rw [k3.cell _ hb3 ?_]
          · exact (HB2.out.cell hzb).trans HZ.out
          · intro e
            rw [e] at hz0
            omega
        refine ⟨hq, ?_⟩
        refine ⟨fun _ h => (by cases h), ?_⟩
        clear hq hb3 hz0 t3 k3
        go_wp2
        exact ⟨⟨k + 1, by omega, rfl, HT3, HB3⟩, by show n - ((k : Int) + 1).toNat < n - ((k : Int)).toNat; omega⟩
      · obtain rfl : k = n := by omega
        have hjd : decide ((k : Int) < (k : Int)) = false := decide_eq_false (by omega)
        have HO : Hid (OrdI k 0 (-1) ⟨#[]⟩ (setO zs k)) := OrdI.start k (by
          rcases HR.out with ⟨_, _, _, h2⟩ | ⟨x, _, hlc, hcm, hzl, hcell, hwz⟩
          · rw [h2]
            intro z hz
            cases hz
          · exact hwz)
        go_wp2
        go_loopw [5, 6, 7] (fun v5 v6 i wq => ∃ (j : Nat) (L : Int) (B : ByteArray) (l : List Nm), j ≤ k ∧ v5 = .int .i64 L ∧ v6 = .string B ∧ i = .int .i64 j ∧ Hid (Tmr wq w.heap.size l) ∧ Hid (Below w.heap.size w wq) ∧ Hid (OrdI k j L B l)) (fun _ _ i _ => k - (intOf i).toNat)
        case atStart => exact ⟨0, -1, ⟨#[]⟩, _, Nat.zero_le _, rfl, rfl, rfl, HT, HB, HO⟩
        case round =>
          clear HT HB HO
          obtain ⟨j, L, B, l, hj, rfl, rfl, rfl, HT, HB, HO⟩ := hrel
          by_cases hjk : j < k
          · have hj0 : (0 : Int) ≤ (j : Int) := Int.natCast_nonneg _
            have hj1 : (j : Int) < (k : Int) := by omega
            have hjd : decide ((j : Int) < (k : Int)) = true := decide_eq_true hj1
            go_wp2_with fail
            refine (due_any w.heap.size l 70000 _ HT.out).mono ?_
            rintro e w1 ⟨nm, m, z, l', rfl, hd, t1, k1⟩
            obtain ⟨rfl, hl, ho⟩ := HO.out.next hjk HT.out.nodup hd
            have HT1 := hide t1
            have HO1 := hide ho
            have HB1 : Hid (Below w.heap.size w w1) := by
              show Below _ _ _
              exact HB.out.trans (k1.below _ HB.out.size (fun x hx => by subst hx; omega))
            clear hd ho t1 k1 HT HB HO
            have d1 : decide (m < L) = false := by
              simp only [lessN, Bool.or_eq_true, Bool.and_eq_true, decide_eq_true_eq] at hl
              exact decide_eq_false (by omega)
            by_cases q : L < m
            · have d2 : decide (m = L) = false := decide_eq_false (by omega)
              have d4 : ¬ m = L := by omega
              clear hl q
              go_wp2
              exact ⟨⟨j + 1, m, nm, l', by omega, rfl, rfl, rfl, HT1, HB1, HO1⟩, by show k - ((j : Int) + 1).toNat < k - ((j : Int)).toNat; omega⟩
            · have d2 : m = L := by
                simp only [lessN, Bool.or_eq_true, Bool.and_eq_true, decide_eq_true_eq] at hl
                omega
              have d3 : Op.bytesLess B.toList nm.toList = true := by
                simp only [lessN, Bool.or_eq_true, Bool.and_eq_true, decide_eq_true_eq] at hl
                rcases hl with hl | hl
                · omega
                · exact hl.2
              have d5 : Op.bytesLess nm.toList B.toList = false := by
                cases e : Op.bytesLess nm.toList B.toList with
                | false => rfl
                | true => have := bl_trans _ _ _ d3 e; rw [bl_irrefl] at this; cases this
              have d6 : ¬ nm.toList = B.toList := fun e => by rw [e, bl_irrefl] at d3; cases d3
              have d7 : (nm.toList == B.toList) = false := by simpa using d6
              clear hl q
              subst d2
              go_wp2
              exact ⟨⟨j + 1, m, nm, l', by omega, rfl, rfl, rfl, HT1, HB1, HO1⟩, by show k - ((j : Int) + 1).toNat < k - ((j : Int)).toNat; omega⟩
          · obtain rfl : j = k := by omega
            have hjd : decide ((j : Int) < (j : Int)) = false := decide_eq_false (by omega)
            go_wp2_with fail
            refine (due_any w.heap.size l 70000 _ HT.out).mono ?_
            rintro e w1 ⟨nm, m, z, l', rfl, hd, t1, k1⟩
            have hz := HO.out.last hd
            subst hz
            have HB1 : Hid (Below w.heap.size w w1) := by
              show Below _ _ _
              exact HB.out.trans (k1.below _ HB.out.size (fun x hx => by subst hx; omega))
            clear hd t1 k1 HT HB HO
            go_wp2_with fail
            refine (answers_any w1).mono ?_
            rintro e w2 ⟨rfl, b2⟩
            have HB2 : Hid (Below w.heap.size w w2) := HB1.out.trans (b2.mono HB1.out.size)
            clear b2 HB1
            go_wp2
            go_ret
            exact ⟨rfl, HB2.out⟩
  · have hnd : decide ((50 : Int) < (n : Int)) = true := decide_eq_true (by omega)
    go_enter Try.func5, Try.ntmps5
    go_wp2_with fail
    refine (answers_any w).mono ?_
    rintro e w1 ⟨rfl, b1⟩
    go_wp2
    go_ret
    exact ⟨rfl, b1⟩
end Go.Proofs.Ythbgalknhodgnaa
