/- The document's Crash, torn at one of the bytes. -/
import Derived.Test.YtbecchoidglaeaaRCrash
namespace Go.Proofs.Ytbecchoidglaeaa
open Go.RowKit
set_option maxRecDepth 100000

attribute [local go_sem ↓] kept_append_bytes
set_option maxRecDepth 100000 in
set_option maxHeartbeats 3200000 in
theorem rcrash_mid {w : World} {V : Nat} {sv lv : Value} {pgs : List Value} {lps : List (Nat × Value)} {P : Nat → Prop} {s : St} (h : RefIn w V sv lv pgs lps P s) (keep : Nat) (torn : Int) (m : Nat) (hm : m < 64) :
    Calls Try.prog 21 #[.pointer (some ⟨V, 0, none⟩), .int .u64 (keep : Int), .int .i64 torn, .int .i64 (m : Int)] w fun e w' =>
      e = .returned (.tuple #[]) ∧ ∃ W' P', RDisk w' V (s.crash keep torn (m : Int)) W' P' ∧ RStep (rfoot V sv lv) P W' P' w w' := by
  have H := hide h
  have hnb : s.lo.length ≤ 1000000 := h.many
  obtain ⟨la, lc, hlv, hla⟩ := h.lform
  have HL := hide hla
  have HLV := hide hlv
  clear h hla hlv
  have hm1 : (m : Int) < 64 := by omega
  go_enter Try.func21, Try.ntmps21
  go_wp2
  go_loopw [8] (fun i wq => ∃ k : Nat, k ≤ s.lo.length ∧ i = .int .i64 k ∧ CrashAt w wq V sv lv lps P s keep torn (m : Int) k) (fun i _ => s.lo.length - (intOf i).toNat)
  case atStart => exact ⟨0, Nat.zero_le _, rfl, pgs, P, H.out, fun b hb => .inl hb, Keeps.refl _ _⟩
  case round =>
    obtain ⟨k, hk, rfl, pgs1, Q, hd, hQ, hkp⟩ := hrel
    clear H
    by_cases hlt : k < s.lo.length
    · obtain ⟨g, rfl⟩ := HL.out (by omega)
      obtain ⟨x, hx⟩ : ∃ x, s.lo[k]? = some x := ⟨_, List.getElem?_eq_getElem hlt⟩
      have hxn : x.1 < s.n := hd.ats x (List.mem_of_getElem? hx)
      obtain ⟨sa, sc, hsv, hsa⟩ := hd.sform
      obtain ⟨sg, rfl⟩ := hsa (show 0 < s.n by omega)
      have hlv := HLV.out
      subst hlv
      subst hsv
      obtain ⟨v, l0, l1, hpg⟩ := hd.loose k x hx
      obtain ⟨vb, vo, vc, rfl, hvc, hpb, hvf⟩ := hpg
      obtain ⟨u, su, hpu⟩ := hd.page x.1 hxn
      obtain ⟨ub, uo, uc, rfl, huc, hub, huf⟩ := hpu
      have sf : wr.frozen? ⟨sg, x.1, none⟩ = false := hd.so.frozenAt x.1
      have c0 : wr.cell? ⟨V, 0, none⟩ = some (.slice (some ⟨sg, 0, none⟩) s.n sc) := hd.c0
      have c1 := hd.c1
      have HX := hide hx
      have HD1 := hide hd
      have HK1 := hide hkp
      have HQ := hide hQ
      have HV := hide (show PageAt wr Q _ x.2 from ⟨vb, vo, vc, rfl, hvc, hpb, hvf⟩)
      have HU := hide huf
      have HVF := hide hvf
      have hx0 : (0 : Int) ≤ (x.1 : Int) := Int.natCast_nonneg _
      have hx1 : (x.1 : Int) < (s.n : Int) := by omega
      have hk0 : (0 : Int) ≤ (k : Int) := Int.natCast_nonneg _
      have hk1 : (k : Int) < (s.lo.length : Int) := by omega
      have hV : V < wr.heap.size := HD1.out.lt
      have hsV : sg ≠ V := fun e => HD1.out.sV (by rw [← e]; rfl)
      have hsg : sg < wr.heap.size := ownBlock_lt HD1.out.so sg rfl
      have hu64 : (64 : Int) ≤ (uc : Int) := by omega
      have hv64 : (64 : Int) ≤ (vc : Int) := by omega
      clear hd hkp hx hpb hvf huf hub hQ hsa
      by_cases ht : (k : Int) = torn
      · subst ht
        have hmv : (m : Int) ≤ (vc : Int) := by omega
        go_wp2_with fail
        have x0 : (wr.alloc (.cells #[.int .i64 (x.1 : Int), .slice (some ⟨vb, vo, none⟩) 64 vc] 98)).cell? ⟨V, 0, none⟩ = some (.slice (some ⟨sg, 0, none⟩) s.n sc) := by rw [World.cell?_alloc_lt _ _ _ hV]; exact c0
        have xs : (wr.alloc (.cells #[.int .i64 (x.1 : Int), .slice (some ⟨vb, vo, none⟩) 64 vc] 98)).cell? ⟨sg, x.1, none⟩ = some (.slice (some ⟨ub, uo, none⟩) 64 uc) := by rw [World.cell?_alloc_lt _ _ _ hsg]; exact su
        have xf : (wr.alloc (.cells #[.int .i64 (x.1 : Int), .slice (some ⟨vb, vo, none⟩) 64 vc] 98)).frozen? ⟨sg, x.1, none⟩ = false := by rw [World.frozen?_alloc_past _ _ _ hsg]; exact sf
        have xh : (wr.alloc (.cells #[.int .i64 (x.1 : Int), .slice (some ⟨vb, vo, none⟩) 64 vc] 98)).heap[wr.heap.size]? = some (.cells #[.int .i64 (x.1 : Int), .slice (some ⟨vb, vo, none⟩) 64 vc] 98 (0, 0)) := heap_alloc_last wr _
        have xa : (wr.alloc (.cells #[.int .i64 (x.1 : Int), .slice (some ⟨vb, vo, none⟩) 64 vc] 98)).cell? ⟨wr.heap.size, 0, none⟩ = some (.int .i64 (x.1 : Int)) := by rw [cell_of_row _ _ _ _ _ _ xh]; rfl
        have xb : (wr.alloc (.cells #[.int .i64 (x.1 : Int), .slice (some ⟨vb, vo, none⟩) 64 vc] 98)).cell? ⟨wr.heap.size, 1, none⟩ = some (.slice (some ⟨vb, vo, none⟩) 64 vc) := by rw [cell_of_row _ _ _ _ _ _ xh]; rfl
        have XK : Hid (Keeps (fun _ => False) wr (wr.alloc (.cells #[.int .i64 (x.1 : Int), .slice (some ⟨vb, vo, none⟩) 64 vc] 98))) := (Keeps.refl _ _).alloc _
        have hsz : (wr.alloc (.cells #[.int .i64 (x.1 : Int), .slice (some ⟨vb, vo, none⟩) 64 vc] 98)).heap.size = wr.heap.size + 1 := by simp
        clear su sf c0 c1 l0 l1 xh
        generalize wr.alloc (.cells #[.int .i64 (x.1 : Int), .slice (some ⟨vb, vo, none⟩) 64 vc] 98) = X at *
        clear HV
        obtain ⟨g1, cc1, w1, g2, cc2, w2, hr1, hr2, kw1, kw2, hg2, hg2l, hpage⟩ := run_torn X.drew vb vo vc ub uo (uc - m) (uo + m) m x.2 (s.landed keep (k : Int) (m : Int) k x.1) (by omega) (by omega)
          (fun j hj => by rw [World.cell?_drew, XK.out.cell _ (World.block_lt_of_cell? wr _ (HVF.out j hj)) (fun h => h)]; exact HVF.out j hj)
          (fun j hj => by rw [World.cell?_drew, XK.out.cell _ (World.block_lt_of_cell? wr _ (HU.out j hj)) (fun h => h)]; exact HU.out j hj)
        have hXs : X.drew.heap.size = wr.heap.size + 1 := hsz
        rw [hXs] at hr1
        have hz0 : X.drew.heap.size = X.heap.size := rfl
        have HP2 := hide hpage
        have HK2 := hide kw2
        have HG2 := hide (And.intro hg2 hg2l)
        have hA1 : ∀ (a : Act) (K : Act → World → Prop) (Q : Exit → Act → World → Prop) (dst : Option Tmp) (pos : String) (after : Array Edge) (gd : Option (Nat × Bool)) (x y : Operand), a.eval x = .slice (some ⟨wr.heap.size + 1, 0, none⟩) 0 0 → a.eval y = .slice (some ⟨vb, vo, none⟩) m vc →
            Kept Try.prog { dst := dst, op := .call { callee := .builtin .append, args := #[x, y], argTypes := #[37, 37] }, type := 37, pos := pos, after := after, guard := gd } a (X.alloc (.cells #[] 5)).drew K Q = K (a.put dst (.slice (some ⟨g1, 0, none⟩) m cc1)) w1 :=
          fun a K Q dst pos after gd x y hx hy => kept_append_run x y _ _ _ hr1 hx hy
        have hA2 : ∀ (a : Act) (K : Act → World → Prop) (Q : Exit → Act → World → Prop) (dst : Option Tmp) (pos : String) (after : Array Edge) (gd : Option (Nat × Bool)) (x y : Operand), a.eval x = .slice (some ⟨g1, 0, none⟩) m cc1 → a.eval y = .slice (some ⟨ub, (uo + m), none⟩) (64 - m) (uc - m) →
            Kept Try.prog { dst := dst, op := .call { callee := .builtin .append, args := #[x, y], argTypes := #[37, 37] }, type := 37, pos := pos, after := after, guard := gd } a w1 K Q = K (a.put dst (.slice (some ⟨g2, 0, none⟩) 64 cc2)) w2 :=
          fun a K Q dst pos after gd x y hx hy => kept_append_run x y _ _ _ hr2 hx hy
        have p0 : w1.cell? ⟨V, 0, none⟩ = some (.slice (some ⟨sg, 0, none⟩) s.n sc) := by rw [kw1.cell _ (by show V < X.drew.heap.size; omega) (fun h => h)]; exact x0
        have ps : w1.cell? ⟨sg, x.1, none⟩ = some (.slice (some ⟨ub, uo, none⟩) 64 uc) := by rw [kw1.cell _ (by show sg < X.drew.heap.size; omega) (fun h => h)]; exact xs
        have pa : w1.cell? ⟨wr.heap.size, 0, none⟩ = some (.int .i64 (x.1 : Int)) := by rw [kw1.cell _ (by show wr.heap.size < X.drew.heap.size; omega) (fun h => h)]; exact xa
        have q0 : w2.cell? ⟨V, 0, none⟩ = some (.slice (some ⟨sg, 0, none⟩) s.n sc) := by rw [kw2.cell _ (by show V < X.drew.heap.size; omega) (fun h => h)]; exact x0
        have qs : w2.cell? ⟨sg, x.1, none⟩ = some (.slice (some ⟨ub, uo, none⟩) 64 uc) := by rw [kw2.cell _ (by show sg < X.drew.heap.size; omega) (fun h => h)]; exact xs
        have qf : w2.frozen? ⟨sg, x.1, none⟩ = false := by rw [World.frozen?_of_block (kw2.block sg (by show sg < X.drew.heap.size; omega) (fun h => h))]; exact xf
        have qa : w2.cell? ⟨wr.heap.size, 0, none⟩ = some (.int .i64 (x.1 : Int)) := by rw [kw2.cell _ (by show wr.heap.size < X.drew.heap.size; omega) (fun h => h)]; exact xa
        have hHs : wr.heap.size ≠ sg := by omega
        have hVX : V < X.heap.size := by omega
        have hsX : sg < X.heap.size := by omega
        have hHX : wr.heap.size < X.heap.size := by omega
        have HXW : Hid (wr.heap.size ≤ X.heap.size) := by show wr.heap.size ≤ X.heap.size; omega
        clear hr1 hr2 kw1 kw2 hg2 hg2l hpage HVF HU hXs hz0
        generalize hHH : wr.heap.size = HH at *
        have HHH := hide hHH
        clear hHH
        go_region
        all_goals (go_wp2; exact ⟨⟨k + 1, by omega, by go_num, crashAt_page HD1.out HQ.out HK1.out x HX.out hxn (Keeps.trans XK.out.drew HK2.out (fun b _ h => h)) (fun b => Q b ∨ b = g2) (fun b hb => .inl hb) (fun b hb => by
            rcases hb with hb | hb
            · exact .inl hb
            · have h1 := HG2.out
              have h2 : X.drew.heap.size = X.heap.size := rfl
              have h3 := HXW.out
              have h4 := HHH.out
              exact .inr (by omega)) _ (HP2.out.mono (fun b hb => .inr hb)) (fun j hj => by rw [lands_torn k keep m (m : Int) (by unfold clamp; omega)])⟩, by simp [intOf]; omega⟩)
      · have e0 : ((k : Int) == torn) = false := by rw [beq_eq_false_iff_ne]; exact ht
        have HT := hide ht
        clear HU HVF ht
        by_cases hbit : keep / 2 ^ (k % 64) % 2 = 1
        · have hb2 : (((keep : Int) / 2 ^ (k % 64)).tmod 2 == 1) = true := by rw [bit_rem, decide_eq_true hbit]
          have HBT := hide hbit
          clear hbit
          go_wp2_with fail
          have x0 : (wr.alloc (.cells #[.int .i64 (x.1 : Int), .slice (some ⟨vb, vo, none⟩) 64 vc] 98)).cell? ⟨V, 0, none⟩ = some (.slice (some ⟨sg, 0, none⟩) s.n sc) := by rw [World.cell?_alloc_lt _ _ _ hV]; exact c0
          have xs : (wr.alloc (.cells #[.int .i64 (x.1 : Int), .slice (some ⟨vb, vo, none⟩) 64 vc] 98)).cell? ⟨sg, x.1, none⟩ = some (.slice (some ⟨ub, uo, none⟩) 64 uc) := by rw [World.cell?_alloc_lt _ _ _ hsg]; exact su
          have xf : (wr.alloc (.cells #[.int .i64 (x.1 : Int), .slice (some ⟨vb, vo, none⟩) 64 vc] 98)).frozen? ⟨sg, x.1, none⟩ = false := by rw [World.frozen?_alloc_past _ _ _ hsg]; exact sf
          have xh : (wr.alloc (.cells #[.int .i64 (x.1 : Int), .slice (some ⟨vb, vo, none⟩) 64 vc] 98)).heap[wr.heap.size]? = some (.cells #[.int .i64 (x.1 : Int), .slice (some ⟨vb, vo, none⟩) 64 vc] 98 (0, 0)) := heap_alloc_last wr _
          have xa : (wr.alloc (.cells #[.int .i64 (x.1 : Int), .slice (some ⟨vb, vo, none⟩) 64 vc] 98)).cell? ⟨wr.heap.size, 0, none⟩ = some (.int .i64 (x.1 : Int)) := by rw [cell_of_row _ _ _ _ _ _ xh]; rfl
          have xb : (wr.alloc (.cells #[.int .i64 (x.1 : Int), .slice (some ⟨vb, vo, none⟩) 64 vc] 98)).cell? ⟨wr.heap.size, 1, none⟩ = some (.slice (some ⟨vb, vo, none⟩) 64 vc) := by rw [cell_of_row _ _ _ _ _ _ xh]; rfl
          have XK : Hid (Keeps (fun _ => False) wr (wr.alloc (.cells #[.int .i64 (x.1 : Int), .slice (some ⟨vb, vo, none⟩) 64 vc] 98))) := (Keeps.refl _ _).alloc _
          have hsz : (wr.alloc (.cells #[.int .i64 (x.1 : Int), .slice (some ⟨vb, vo, none⟩) 64 vc] 98)).heap.size = wr.heap.size + 1 := by simp
          clear su sf c0 c1 l0 l1 xh
          generalize wr.alloc (.cells #[.int .i64 (x.1 : Int), .slice (some ⟨vb, vo, none⟩) 64 vc] 98) = X at *
          have hHs : wr.heap.size ≠ sg := by omega
          generalize wr.heap.size = HH at *
          go_region
          all_goals (go_wp2; exact ⟨⟨k + 1, by omega, by go_num, crashAt_page HD1.out HQ.out HK1.out x HX.out hxn XK.out.drew Q (fun b hb => hb) (fun b hb => .inl hb) x.2 (HV.out.keeps XK.out.drew (fun _ _ h => h)) (fun j hj => by rw [lands_kept k keep torn (m : Int) HT.out HBT.out, if_pos hj])⟩, by simp [intOf]; omega⟩)
        · have hb2 : (((keep : Int) / 2 ^ (k % 64)).tmod 2 == 1) = false := by rw [bit_rem, decide_eq_false hbit]
          have HBT := hide hbit
          clear hbit
          go_wp2
          exact ⟨⟨k + 1, by omega, by go_num, crashAt_skip HD1.out HQ.out HK1.out x HX.out ((Keeps.refl _ _).alloc _) (lands_lost k keep torn (m : Int) HT.out HBT.out)⟩, by simp [intOf]; omega⟩
    · have c1 := hd.c1
      rw [HLV.out] at c1
      have c2 := hd.c2
      have c3 := hd.c3
      have f1 := hd.fz 1
      have f2 := hd.fz 2
      have f3 := hd.fz 3
      have hkn : k = s.lo.length := by omega
      have HD1 := hide hd
      have HK1 := hide hkp
      have HQ := hide hQ
      have HKN := hide hkn
      clear hd hkp hkn hQ
      go_wp2
      go_end0
      refine ⟨rfl, ?_⟩
      have hh := HD1.out
      rw [HKN.out] at hh
      exact crashAt_end hh HQ.out HK1.out
end Go.Proofs.Ytbecchoidglaeaa
