/- Crash: what it turns. -/
import Derived.Test.YtbecchoidglaeaaFlush
namespace Go.Proofs.Ytbecchoidglaeaa
open Go.RowKit
set_option maxRecDepth 100000

theorem step_copy {P : Program} {ops : Array Oper} {o : Oper} {a : Act} {w w' : World} {K : Act → World → Prop} {Q : Exit → Act → World → Prop} {E : Prop} (hgd : o.guard = none) (d s : Operand) (dT sT : TypeId)
    (ho : o.op = .call { callee := .builtin .copy, args := #[d, s], argTypes := #[dT, sT] }) (p v r : Value) (hd : a.eval d = p) (hs : a.eval s = v) (hr : ∀ ty, (Builtin.copy_ #[dT, sT] ty #[p, v]).run P w = .ok r w') (h : K (a.put o.dst r) w') :
    if Region.wanted o (yielded ops a.tmps) = true then Oper.wp P o a w K Q else E := by
  have hw : Region.wanted o (yielded ops a.tmps) = true := by simp [Region.wanted, hgd]
  rw [if_pos hw]
  unfold Oper.wp execOp
  simp only [ho, resolve, invoke, builtin, Sem.run_bind, Sem.run_pure, Result.andThen_ok, List.map_toArray, List.map_cons, List.map_nil, hd, hs, hr]
  exact h
/-- copy of the first m bytes of a page (or of none). -/
theorem run_copy_bytes (w : World) (g o h oh m c1 c2 : Nat) (f : Nat → Nat) (ty : TypeId) (hr : w.rangeAt h oh (valsOf f 64)) (ht : w.there g o 64) (hm : m ≤ 64) :
    (Builtin.copy_ #[37, 37] ty #[.slice (some ⟨g, o, none⟩) m c1, .slice (some ⟨h, oh, none⟩) m c2]).run Try.prog w = .ok (goInt (m : Int)) (w.setCells g o (valsOf f m)) := by
  have := run_copy_cells (P := Try.prog) w 37 37 ty 5 g o m c1 ⟨h, oh, none⟩ m c2 (valsOf f m) Try.underlying37 Try.size5 (by rw [valsOf_length]; simp)
    (fun j v hv => by
      have hj : j < m := by simpa [valsOf_length] using (List.getElem?_eq_some_iff.1 hv).1
      rw [valsOf_get _ _ _ hj] at hv
      rw [Addr.add_mid]
      exact hr j v (by rw [valsOf_get _ _ _ (by omega)]; exact hv))
    (fun j hj => (ht j (by rw [valsOf_length] at hj; omega)).1) (fun j hj => (ht j (by rw [valsOf_length] at hj; omega)).2) (valsOf_one f m)
  rw [this, valsOf_length]
/-- All bytes of n pages. -/
def flat (g : Nat → Nat → Nat) (n : Nat) : List Value := valsOf (fun k => g (k / 64) (k % 64)) (n * 64)
theorem Grid.flat {w : World} {b n : Nat} {g : Nat → Nat → Nat} (h : Grid w b n g) : ∀ j v, (flat g n)[j]? = some v → w.cell? ⟨b, j, none⟩ = some v := by
  intro j v hv
  have hj : j < n * 64 := by simpa [Go.Proofs.Ytbecchoidglaeaa.flat, valsOf_length] using (List.getElem?_eq_some_iff.1 hv).1
  rw [Go.Proofs.Ytbecchoidglaeaa.flat, valsOf_get _ _ _ hj] at hv
  have := (h.2 (j / 64) (by omega) (j % 64) (by omega)).1
  rw [show j / 64 * 64 + j % 64 = j from by omega] at this
  rw [this, hv]
theorem Grid.whole {w : World} {b n : Nat} {g : Nat → Nat → Nat} (h : Grid w b n g) : w.there b 0 (n * 64) := by
  intro j hj
  have := h.2 (j / 64) (by omega) (j % 64) (by omega)
  rw [show j / 64 * 64 + j % 64 = j from by omega] at this
  rw [Nat.zero_add]
  exact ⟨by rw [this.1]; rfl, this.2⟩
theorem Grid.storeAll {w : World} {b n : Nat} {g g' : Nat → Nat → Nat} (h : Grid w b n g) : Grid (w.setCells b 0 (Go.Proofs.Ytbecchoidglaeaa.flat g' n)) b n g' := by
  refine ⟨by rw [size_setCells]; exact h.1, fun i hi j hj => ⟨?_, by rw [World.frozen?_setCells]; exact (h.2 i hi j hj).2⟩⟩
  have hlen : (Go.Proofs.Ytbecchoidglaeaa.flat g' n).length = n * 64 := valsOf_length _ _
  have hlt : i * 64 + j < (Go.Proofs.Ytbecchoidglaeaa.flat g' n).length := by rw [hlen]; omega
  have := World.cell?_setCells_in b (Go.Proofs.Ytbecchoidglaeaa.flat g' n) 0 w (fun q hq => (h.whole q (by omega)).1) (i * 64 + j) hlt
  rw [Nat.zero_add] at this
  rw [this]
  unfold Go.Proofs.Ytbecchoidglaeaa.flat at hlt ⊢
  rw [valsOf_getElem, show (i * 64 + j) / 64 = i from by omega, show (i * 64 + j) % 64 = j from by omega]
theorem run_copy_pages (w : World) (N L n : Nat) (now lasts : Nat → Nat → Nat) (ty : TypeId) (hn : Grid w N n now) (hl : Grid w L n lasts) :
    (Builtin.copy_ #[67, 67] ty #[.slice (some ⟨N, 0, none⟩) n n, .slice (some ⟨L, 0, none⟩) n n]).run Try.prog w = .ok (goInt (n : Int)) (w.setCells N 0 (flat lasts n)) := by
  have hlen : (flat lasts n).length = n * 64 := valsOf_length _ _
  have h1 := run_loadCells_list (P := Try.prog) w ⟨L, 0, none⟩ (flat lasts n) (fun j v hv => by rw [Addr.add_mid, Nat.zero_add]; exact hl.flat j v hv)
  have h2 := run_storeCells_cells (P := Try.prog) N 0 (flat lasts n) 0 w (fun j hj => by simpa using (hn.whole j (by omega)).1) (fun j hj => by simpa using (hn.whole j (by omega)).2) (valsOf_one _ _)
  obtain ⟨i0, hi0, hz0, hz1, hz2⟩ := info_parts Try.zero93
  simp [Builtin.copy_, run_underlying Try.underlying67, Builtin.lenOf, Builtin.firstCells, sizeOf, typeInfo, hi0, hz1, ← hlen, h1, h2]
theorem DiskIn.storeAll {w : World} {D N L : Nat} {v : Value} {s : St} (h : DiskIn w D N L v s) :
    DiskIn (w.setCells N 0 (flat s.lasts s.n)) D N L v { s with now := s.lasts } := by
  have hk : Keeps (fun b => b = N) w (w.setCells N 0 (flat s.lasts s.n)) := (Keeps.refl _ _).setCells N _ _ (.inl rfl)
  exact
  { h with
    block := by rw [heap_setCells N _ _ _ D h.dn]; exact h.block
    gn := h.gn.storeAll
    gl := h.gl.keeps hk (Ne.symm h.nl)
    own := by
      refine ⟨h.own.1, ?_⟩
      rcases h.own.2 with hh | ⟨g, cap, cur, e, hb, hg, rest⟩
      · exact .inl hh
      · refine .inr ⟨g, cap, cur, e, hb, ?_, rest⟩
        have e2 : v.ownBlock = some g := by rw [e]; rfl
        rw [heap_setCells N _ _ _ g (fun e3 => by subst e3; exact h.vn e2)]
        exact hg }
/-- What Crash(keep, torn, at) makes last. -/
def St.landed (s : St) (keep : Nat) (torn at_ : Int) (k : Nat) : Nat → Nat → Nat := lay (fun i => lands i keep torn at_) s.lo s.lasts k
/-- Crash(keep, torn, at). -/
def St.crash (s : St) (keep : Nat) (torn at_ : Int) : St :=
  { s with now := s.landed keep torn at_ s.lo.length, lasts := s.landed keep torn at_ s.lo.length, lo := [], fused := false, left := 0, down := false }

set_option maxHeartbeats 400000 in
theorem crash_nil (keep torn at_ : Int) (w : World) : Calls Try.prog 20 #[.pointer none, .int .u64 keep, .int .i64 torn, .int .i64 at_] w fun e w' => e = .returned (.tuple #[]) ∧ w' = w := by
  go_enter Try.func20, Try.ntmps20
  go_wp2
  refine bodyPost_ret (results_none rfl _ _ _) rfl ?_
  exact ⟨rfl, rfl⟩

set_option maxRecDepth 100000 in
set_option maxHeartbeats 1600000 in
theorem crash_some {w : World} {D N L : Nat} {a : Option Addr} {n cap : Nat} {s : St} (h : DiskIn w D N L (.slice a n cap) s) (hn : n = s.lo.length) (ha : 0 < n → ∃ g, a = some ⟨g, 0, none⟩)
    (keep : Nat) (torn at_ : Int) (hkeep : keep < 18446744073709551616) (hat : -9223372036854775808 ≤ at_ ∧ at_ ≤ 9223372036854775807) :
    Calls Try.prog 20 #[.pointer (some ⟨D, 0, none⟩), .int .u64 (keep : Int), .int .i64 torn, .int .i64 at_] w fun e w' =>
      e = .returned (.tuple #[]) ∧ DiskIn w' D N L (.slice none 0 0) (s.crash keep torn at_) ∧ Keeps (fun b => b = D ∨ b = N ∨ b = L) w w' := by
  have HD := hide h
  have HN := hide hn
  have HA := hide ha
  have hnb : n ≤ 1000000 := by rw [hn]; exact h.many
  have hd2 := h.c2
  clear h hn ha
  go_enter Try.func20, Try.ntmps20
  go_wp2
  go_loopw [18] (fun i wq => ∃ k : Nat, k ≤ n ∧ i = .int .i64 k ∧ DiskIn wq D N L (.slice a n cap) (s.lastly (s.landed keep torn at_ k)) ∧ Keeps (fun b => b = D ∨ b = N ∨ b = L) w wq) (fun i _ => n - (intOf i).toNat)
  case atStart => exact ⟨0, Nat.zero_le _, rfl, HD.out, Keeps.refl _ _⟩
  case round =>
    obtain ⟨k, hk, rfl, hd, hkp⟩ := hrel
    by_cases hlt : k < n
    · obtain ⟨g, rfl⟩ := HA.out (by omega)
      obtain ⟨x, hx⟩ : ∃ x, s.lo[k]? = some x := ⟨_, List.getElem?_eq_getElem (by rw [← HN.out]; exact hlt)⟩
      have HX := hide hx
      have hxa : x.1 < s.n := hd.ats x (List.mem_of_getElem? hx)
      have HR := hide (write_load wr g (k * 65) x (hd.looseAt k x hx))
      have HD1 := hide hd
      have HK1 := hide hkp
      have c1 : wr.cell? ⟨D, 1, none⟩ = some (.slice (some ⟨L, 0, none⟩) s.n s.n) := hd.c1
      have hth := hd.gl.thereAt x.1 hxa
      have hL : L < wr.heap.size := hd.gl.1
      have hD : D < wr.heap.size := hd.lt
      have hdl := hd.dl
      have hx0 : (0 : Int) ≤ (x.1 : Int) := Int.natCast_nonneg _
      have hx1 : (x.1 : Int) < (s.n : Int) := by omega
      clear hd hkp hx hd2 HD
      go_wp2_with (first
        | ((with_reducible refine wpl_load 95 _ (.pointer (some ⟨g, k * 65, none⟩)) _ ?_ HR.out ?_); (· rfl))
        | (with_reducible refine wpl_alloc 95 _ (run_alloc_write _) ?_)
        | ((with_reducible refine wpl_store 95 _ _ (.pointer (some ⟨wr.heap.size, 0, none⟩)) (.agg (wcl x).toArray) ?_ ?_ (run_store_write _ _ _) ?_); (· rfl); (· rfl)))
      refine (landing_any k keep torn at_ _ (by omega) hkeep hat).mono ?_
      rintro e w2 ⟨rfl, rfl⟩
      have hm := lands_le k keep torn at_
      have x1 : (wr.alloc (Obj.cells (wcl x).toArray 95)).cell? ⟨D, 1, none⟩ = some (.slice (some ⟨L, 0, none⟩) s.n s.n) := by rw [World.cell?_alloc_lt _ _ _ hD]; exact c1
      have xh : (wr.alloc (Obj.cells (wcl x).toArray 95)).heap[wr.heap.size]? = some (.cells (wcl x).toArray 95 (0, 0)) := heap_alloc_last wr _
      have xa : (wr.alloc (Obj.cells (wcl x).toArray 95)).cell? ⟨wr.heap.size, 0, none⟩ = some (.int .i64 (x.1 : Int)) := by rw [cell_of_row _ _ _ _ _ _ xh]; simp [wcl]
      have xr : (wr.alloc (Obj.cells (wcl x).toArray 95)).rangeAt wr.heap.size 1 (valsOf x.2 64) := fun j v hv => by
        rw [cell_of_row _ _ _ _ _ _ xh, Nat.add_comm]
        simpa [wcl] using hv
      have xt := World.there_alloc hth (Obj.cells (wcl x).toArray 95)
      have XK : Hid (Keeps (fun b => b = D ∨ b = N ∨ b = L) w (wr.alloc (Obj.cells (wcl x).toArray 95))) := HK1.out.alloc _
      have XD : Hid (DiskIn (wr.alloc (Obj.cells (wcl x).toArray 95)) D N L (.slice (some ⟨g, 0, none⟩) n cap) (s.lastly (s.landed keep torn at_ k))) := HD1.out.keeps (F := fun _ => False) ((Keeps.refl _ _).alloc _) (fun _ _ h => h)
      have HL : Hid (s.landed keep torn at_ (k + 1) = putPage (s.landed keep torn at_ k) x.1 (lands k keep torn at_) x.2) := lay_succ _ _ _ k x HX.out
      clear c1 hth HD1 HK1 HR xh
      generalize wr.alloc (Obj.cells (wcl x).toArray 95) = X at *
      have hHD : wr.heap.size ≠ D := by omega
      have hHL : wr.heap.size ≠ L := by omega
      generalize wr.heap.size = HH1 at *
      generalize lands k keep torn at_ = m at *
      have hm0 : (0 : Int) ≤ (m : Int) := Int.natCast_nonneg _
      have hm1 : (m : Int) ≤ 64 := by omega
      go_wp2_with fail
      go_region_held3 (fun w' => w'.cell? ⟨D, 1, none⟩ = some (.slice (some ⟨L, 0, none⟩) s.n s.n) ∧ w'.cell? ⟨HH1, 0, none⟩ = some (.int .i64 (x.1 : Int)))
        (first
          | (go_split_ands
             refine ⟨?_, ?_⟩
             · (first | assumption | (simp only [World.cell?_drew]; assumption) | (rw [World.cell?_setCells_out _ _ _ _ _ (fun e _ => absurd e hdl)]; assumption))
             · (first | assumption | (simp only [World.cell?_drew]; assumption) | (rw [World.cell?_setCells_out _ _ _ _ _ (fun e _ => absurd e hHL)]; assumption))))
        ((refine step_copy (by rfl) _ _ 37 37 (by rfl) (.slice (some ⟨L, x.1 * 64, none⟩) m 64) (.slice (some ⟨HH1, 1, none⟩) m 64) _ (by rfl) (by rfl) (fun ty => run_copy_bytes _ L (x.1 * 64) HH1 1 m 64 64 x.2 ty (by simpa using xr) (by simpa using xt) hm) ?_))
      have ZD : Hid (DiskIn (X.drew.setCells L (x.1 * 64) (valsOf x.2 m)) D N L (.slice (some ⟨g, 0, none⟩) n cap) (s.lastly (s.landed keep torn at_ (k + 1)))) := by
        rw [HL.out]
        exact XD.out.drew.storeLasts x.1 hxa m hm x.2
      have ZK : Hid (Keeps (fun b => b = D ∨ b = N ∨ b = L) w (X.drew.setCells L (x.1 * 64) (valsOf x.2 m))) := XK.out.drew.setCells L _ _ (.inl (.inr (.inr rfl)))
      clear x1 xa xr xt XK XD HL
      generalize X.drew.setCells L (x.1 * 64) (valsOf x.2 m) = Y at *
      go_wp2
      exact ⟨⟨k + 1, by omega, by go_num, ZD.out, ZK.out⟩, by simp [intOf]; omega⟩
    · have c0 : wr.cell? ⟨D, 0, none⟩ = some (.slice (some ⟨N, 0, none⟩) s.n s.n) := hd.c0
      have c1 : wr.cell? ⟨D, 1, none⟩ = some (.slice (some ⟨L, 0, none⟩) s.n s.n) := hd.c1
      have hdn := hd.dn
      have HD1 := hide hd
      have HK1 := hide hkp
      have hkn : k = n := by omega
      have HKN := hide hkn
      have gn : Grid wr N s.n s.now := hd.gn
      have gl : Grid wr L s.n (s.landed keep torn at_ k) := hd.gl
      have GN := hide gn
      have GL := hide gl
      clear hd hkp hkn gn gl
      go_wp2_with fail
      go_region_held3 (fun w' => w'.cell? ⟨D, 0, none⟩ = some (.slice (some ⟨N, 0, none⟩) s.n s.n) ∧ w'.cell? ⟨D, 1, none⟩ = some (.slice (some ⟨L, 0, none⟩) s.n s.n))
        (first
          | (go_split_ands
             refine ⟨?_, ?_⟩
             · (first | assumption | (simp only [World.cell?_drew]; assumption) | (rw [World.cell?_setCells_out _ _ _ _ _ (fun e _ => absurd e hdn)]; assumption))
             · (first | assumption | (simp only [World.cell?_drew]; assumption) | (rw [World.cell?_setCells_out _ _ _ _ _ (fun e _ => absurd e hdn)]; assumption))))
        ((refine step_copy (by rfl) _ _ 67 67 (by rfl) (.slice (some ⟨N, 0, none⟩) s.n s.n) (.slice (some ⟨L, 0, none⟩) s.n s.n) _ (by rfl) (by rfl) (fun ty => run_copy_pages _ N L s.n _ _ ty GN.out.drew GL.out.drew) ?_))
      have ZD : Hid (DiskIn (wr.drew.setCells N 0 (flat (s.landed keep torn at_ k) s.n)) D N L (.slice a n cap) { s with now := s.landed keep torn at_ k, lasts := s.landed keep torn at_ k }) := HD1.out.drew.storeAll
      have ZK : Hid (Keeps (fun b => b = D ∨ b = N ∨ b = L) w (wr.drew.setCells N 0 (flat (s.landed keep torn at_ k) s.n))) := HK1.out.drew.setCells N _ _ (.inl (.inr (.inl rfl)))
      clear c0 c1 HD1 HK1 GN GL HA HD hd2
      rw [HKN.out, HN.out] at ZD ZK
      rw [HKN.out, HN.out]
      generalize wr.drew.setCells N 0 (flat (s.landed keep torn at_ s.lo.length) s.n) = Y at *
      have d2 := ZD.out.c2
      have d3 := ZD.out.c3
      have d4 := ZD.out.c4
      have d5 := ZD.out.c5
      have f2 := ZD.out.fz 2
      have f3 := ZD.out.fz 3
      have f4 := ZD.out.fz 4
      have f5 := ZD.out.fz 5
      go_wp2
      go_end0
      refine ⟨rfl, ?_, (((ZK.out.setCell D 2 _ (.inl (.inl rfl))).setCell D 3 _ (.inl (.inl rfl))).setCell D 4 _ (.inl (.inl rfl))).setCell D 5 _ (.inl (.inl rfl))⟩
      have h1 := ZD.out.turnLoose (Keeps.refl (fun _ => False) _) (fun _ _ h => h.elim) [] (v1 := .slice none 0 0) ⟨rfl, .inl ⟨rfl, rfl⟩⟩ (fun b e => by simp [Value.ownBlock] at e) (fun _ h => by simp at h) (by simp)
      have hb := heap_set_at _ D 3 _ _ _ (.bool false) h1.block
      have hb2 := heap_set_at _ D 4 _ _ _ (.int .i64 0) hb
      have hb3 := heap_set_at _ D 5 _ _ _ (.bool false) hb2
      exact h1.fuseSet false 0 false (by omega) _ ((((Keeps.refl (fun b => b = D) _).setCell D 3 _ (.inl rfl)).setCell D 4 _ (.inl rfl)).setCell D 5 _ (.inl rfl)) hb3
theorem crash_in {w : World} {D N L : Nat} {v : Value} {s : St} (h : DiskIn w D N L v s) (keep : Nat) (torn at_ : Int) (hkeep : keep < 18446744073709551616) (hat : -9223372036854775808 ≤ at_ ∧ at_ ≤ 9223372036854775807) :
    Calls Try.prog 20 #[.pointer (some ⟨D, 0, none⟩), .int .u64 (keep : Int), .int .i64 torn, .int .i64 at_] w fun e w' =>
      e = .returned (.tuple #[]) ∧ DiskIn w' D N L (.slice none 0 0) (s.crash keep torn at_) ∧ Keeps (fun b => b = D ∨ b = N ∨ b = L) w w' := by
  obtain ⟨a, cap, rfl, _, hg⟩ := h.form
  exact crash_some h rfl hg keep torn at_ hkeep hat
end Go.Proofs.Ytbecchoidglaeaa
