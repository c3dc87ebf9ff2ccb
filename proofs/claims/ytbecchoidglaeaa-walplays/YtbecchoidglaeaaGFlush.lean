/- Flush: what it answers, and what it turns. -/
import Derived.Test.YtbecchoidglaeaaWriteF
namespace Go.Proofs.Ytbecchoidglaeaa
open Go.RowKit
set_option maxRecDepth 100000

/-- The pages g, over which of the first k loose Writes the first m i bytes of number i were laid. -/
def lay (m : Nat → Nat) (lo : List (Nat × (Nat → Nat))) (g : Nat → Nat → Nat) : Nat → Nat → Nat → Nat
  | 0 => g
  | k + 1 => match lo[k]? with
    | some x => putPage (lay m lo g k) x.1 (m k) x.2
    | none => lay m lo g k
theorem lay_succ (m : Nat → Nat) (lo : List (Nat × (Nat → Nat))) (g : Nat → Nat → Nat) (k : Nat) (x : Nat × (Nat → Nat)) (h : lo[k]? = some x) : lay m lo g (k + 1) = putPage (lay m lo g k) x.1 (m k) x.2 := by
  simp only [lay, h]
/-- A store into the first bytes of one page of 'lasts'. -/
theorem DiskIn.storeLasts {w : World} {D N L : Nat} {v : Value} {s : St} (h : DiskIn w D N L v s) (i : Nat) (hi : i < s.n) (m : Nat) (hm : m ≤ 64) (p : Nat → Nat) :
    DiskIn (w.setCells L (i * 64) (valsOf p m)) D N L v { s with lasts := putPage s.lasts i m p } := by
  have hk : Keeps (fun b => b = L) w (w.setCells L (i * 64) (valsOf p m)) := (Keeps.refl _ _).setCells L _ _ (.inl rfl)
  exact
  { h with
    block := by rw [heap_setCells L _ _ _ D h.dl]; exact h.block
    gl := h.gl.store i hi m hm p
    gn := h.gn.keeps hk h.nl
    own := by
      refine ⟨h.own.1, ?_⟩
      rcases h.own.2 with hh | ⟨g, cap, cur, e, hb, hg, rest⟩
      · exact .inl hh
      · refine .inr ⟨g, cap, cur, e, hb, ?_, rest⟩
        have e2 : v.ownBlock = some g := by rw [e]; rfl
        rw [heap_setCells L _ _ _ g (fun e3 => by subst e3; exact h.vl e2)]
        exact hg }
/-- A loose Write, read. -/
theorem DiskIn.looseAt {w : World} {D N L g n cap : Nat} {s : St} (h : DiskIn w D N L (.slice (some ⟨g, 0, none⟩) n cap) s) (k : Nat) (x : Nat × (Nat → Nat)) (hx : s.lo[k]? = some x) : w.rangeAt g (k * 65) (wcl x) := by
  intro j u hu
  have hj : j < 65 := by simpa [wr_length] using (List.getElem?_eq_some_iff.1 hu).1
  have hk : k < s.lo.length := (List.getElem?_eq_some_iff.1 hx).1
  rcases h.own.2 with ⟨e, _⟩ | ⟨g', cap', cur, e, _, hg, hc, _, hs, ht⟩
  · cases e
  · injection e with e1 _ _
    injection e1 with e1
    injection e1 with e1 _ _
    subst e1
    rw [cell_of_row _ _ _ _ _ _ hg]
    have hlt : k * 65 + j < s.lo.length * 65 := by omega
    have e3 := wrs_get s.lo k j x hx hj
    rw [← ht, List.getElem?_take_of_lt hlt] at e3
    rw [← hu, ← e3]
    simp
/-- The same disk with other lasting pages. -/
def St.lastly (s : St) (g : Nat → Nat → Nat) : St := { s with lasts := g }
/-- Flush() that is done. -/
def St.flush (s : St) : St := { s with lasts := lay (fun _ => 64) s.lo s.lasts s.lo.length, lo := [] }

set_option maxHeartbeats 400000 in
theorem flush_nil (w : World) : Calls Try.prog 29 #[.pointer none] w fun e w' => e = .returned (.int .i64 1) ∧ w' = w := by
  go_enter Try.func29, Try.ntmps29
  go_wp2
  go_ret
  exact ⟨rfl, rfl⟩
set_option maxHeartbeats 400000 in
theorem flush_down {w : World} {D N L : Nat} {v : Value} {s : St} (h : DiskIn w D N L v s) (hp : s.power = false) :
    Calls Try.prog 29 #[.pointer (some ⟨D, 0, none⟩)] w fun e w' => e = .returned (.int .i64 4) ∧ DiskIn w' D N L v s.spent ∧ Keeps (fun b => b = D) w w' := by
  have H := hide h
  have HP := hide hp
  clear h hp
  go_enter Try.func29, Try.ntmps29
  go_wp2_with fail
  refine (spend_in H.out).mono ?_
  rintro e w2 ⟨rfl, hd, hk⟩
  rw [HP.out]
  have HD := hide hd
  have HK := hide hk
  clear hd hk
  go_wp2
  go_ret
  exact ⟨rfl, HD.out, HK.out⟩

set_option maxRecDepth 100000 in
set_option maxHeartbeats 1600000 in
theorem flush_some {w : World} {D N L : Nat} {a : Option Addr} {n cap : Nat} {s : St} (h : DiskIn w D N L (.slice a n cap) s) (hn : n = s.lo.length) (ha : 0 < n → ∃ g, a = some ⟨g, 0, none⟩) (hp : s.power = true) :
    Calls Try.prog 29 #[.pointer (some ⟨D, 0, none⟩)] w fun e w' =>
      e = .returned (.int .i64 0) ∧ DiskIn w' D N L (.slice none 0 0) s.spent.flush ∧ Keeps (fun b => b = D ∨ b = L) w w' := by
  have H := hide h
  have HP := hide hp
  have HN := hide hn
  have HA := hide ha
  have hnb : n ≤ 1000000 := by rw [hn]; exact h.many
  clear h hp hn ha
  go_enter Try.func29, Try.ntmps29
  go_wp2_with fail
  refine (spend_in H.out).mono ?_
  rintro e w1 ⟨rfl, hd, hk⟩
  rw [HP.out]
  have HD := hide hd
  have HK := hide hk
  have hd2 := hd.c2
  clear hd hk
  go_wp2
  go_loopw [15] (fun i wq => ∃ k : Nat, k ≤ n ∧ i = .int .i64 k ∧ DiskIn wq D N L (.slice a n cap) (s.spent.lastly (lay (fun _ => 64) s.lo s.lasts k)) ∧ Keeps (fun b => b = D ∨ b = L) w wq) (fun i _ => n - (intOf i).toNat)
  case atStart => exact ⟨0, Nat.zero_le _, rfl, HD.out, HK.out.mono (fun _ _ h => .inl h)⟩
  case round =>
    obtain ⟨k, hk, rfl, hd, hkp⟩ := hrel
    by_cases hlt : k < n
    · obtain ⟨g, rfl⟩ := HA.out (by omega)
      obtain ⟨x, hx⟩ : ∃ x, s.lo[k]? = some x := ⟨_, List.getElem?_eq_getElem (by rw [← HN.out]; exact hlt)⟩
      have HX := hide hx
      have hxa : x.1 < s.n := hd.ats x (List.mem_of_getElem? hx)
      have HR := hide (write_load wr g (k * 65) x (hd.looseAt k x hx))
      have HD1 := hide hd
      have HK1 := hide hkp
      have c1 : wr.cell? ⟨D, 1, none⟩ = some (.slice (some ⟨L, 0, none⟩) s.n s.n) := hd.c1
      have hth := hd.gl.thereAt x.1 hxa
      have hL : L < wr.heap.size := hd.gl.1
      have hD : D < wr.heap.size := hd.lt
      have hdl := hd.dl
      have hx0 : (0 : Int) ≤ (x.1 : Int) := Int.natCast_nonneg _
      have hx1 : (x.1 : Int) < (s.n : Int) := by omega
      clear hd hkp hx hd2 HD HK
      go_wp2_with (first
        | ((with_reducible refine wpl_load 95 _ (.pointer (some ⟨g, k * 65, none⟩)) _ ?_ HR.out ?_); (· rfl))
        | (with_reducible refine wpl_alloc 95 _ (run_alloc_write _) ?_)
        | ((with_reducible refine wpl_store 95 _ _ (.pointer (some ⟨wr.heap.size, 0, none⟩)) (.agg (wcl x).toArray) ?_ ?_ (run_store_write _ _ _) ?_); (· rfl); (· rfl)))
      have x1 : (wr.alloc (Obj.cells (wcl x).toArray 95)).cell? ⟨D, 1, none⟩ = some (.slice (some ⟨L, 0, none⟩) s.n s.n) := by rw [World.cell?_alloc_lt _ _ _ hD]; exact c1
      have xh : (wr.alloc (Obj.cells (wcl x).toArray 95)).heap[wr.heap.size]? = some (.cells (wcl x).toArray 95 (0, 0)) := heap_alloc_last wr _
      have xa : (wr.alloc (Obj.cells (wcl x).toArray 95)).cell? ⟨wr.heap.size, 0, none⟩ = some (.int .i64 (x.1 : Int)) := by rw [cell_of_row _ _ _ _ _ _ xh]; simp [wcl]
      have xr : (wr.alloc (Obj.cells (wcl x).toArray 95)).rangeAt wr.heap.size 1 (valsOf x.2 64) := fun j v hv => by
        rw [cell_of_row _ _ _ _ _ _ xh, Nat.add_comm]
        simpa [wcl] using hv
      have xt := World.there_alloc hth (Obj.cells (wcl x).toArray 95)
      have XK : Hid (Keeps (fun b => b = D ∨ b = L) w (wr.alloc (Obj.cells (wcl x).toArray 95))) := HK1.out.alloc _
      have XD : Hid (DiskIn (wr.alloc (Obj.cells (wcl x).toArray 95)) D N L (.slice (some ⟨g, 0, none⟩) n cap) (s.spent.lastly (lay (fun _ => 64) s.lo s.lasts k))) := HD1.out.keeps (F := fun _ => False) ((Keeps.refl _ _).alloc _) (fun _ _ h => h)
      clear c1 hth HD1 HK1 HR xh
      generalize wr.alloc (Obj.cells (wcl x).toArray 95) = X at *
      have hHD : wr.heap.size ≠ D := by omega
      have hHL : wr.heap.size ≠ L := by omega
      generalize wr.heap.size = HH1 at *
      have hu := Try.underlying93
      have hz : (Try.prog.info? 93).map (·.size) = some (valsOf x.2 64).length := by rw [Try.size93, valsOf_length]
      have hz2 : (valsOf x.2 64).length = 64 := valsOf_length _ _
      have hz3 := valsOf_one x.2 64
      generalize hcs : valsOf x.2 64 = cs at *
      have HCS := hide hcs
      clear hcs
      go_region_held3 (fun w' => w'.cell? ⟨D, 1, none⟩ = some (.slice (some ⟨L, 0, none⟩) s.n s.n) ∧ w'.cell? ⟨HH1, 0, none⟩ = some (.int .i64 (x.1 : Int)) ∧ w'.rangeAt HH1 1 cs ∧ w'.there L (x.1 * 64) 64)
        (first
          | go_keep_ranges
          | (go_split_ands
             refine ⟨?_, ?_, ?_, ?_⟩
             · (first | assumption | (simp only [World.cell?_drew]; assumption) | (rw [World.cell?_setCells_out _ _ _ _ _ (fun e _ => absurd e hdl)]; assumption))
             · (first | assumption | (simp only [World.cell?_drew]; assumption) | (rw [World.cell?_setCells_out _ _ _ _ _ (fun e _ => absurd e hHL)]; assumption))
             · (first | assumption | (simp only [World.rangeAt_drew]; assumption) | exact World.rangeAt_setCells_apart (by assumption) _ _ _ (.inl hHL))
             · (first | assumption | (simp only [World.there_drew]; assumption) | exact World.there_setCells (by assumption) _ _ _)))
        (fail)
      have ZD : Hid (DiskIn (X.drew.setCells L (x.1 * 64) cs) D N L (.slice (some ⟨g, 0, none⟩) n cap) (s.spent.lastly (lay (fun _ => 64) s.lo s.lasts (k + 1)))) := by
        rw [← HCS.out, lay_succ _ _ _ k x HX.out]
        exact XD.out.drew.storeLasts x.1 hxa 64 (Nat.le_refl _) x.2
      have ZK : Hid (Keeps (fun b => b = D ∨ b = L) w (X.drew.setCells L (x.1 * 64) cs)) := XK.out.drew.setCells L _ _ (.inl (.inr rfl))
      clear x1 xa xr xt XK XD hu hz hz2 hz3
      generalize X.drew.setCells L (x.1 * 64) cs = Y at *
      go_wp2
      exact ⟨⟨k + 1, by omega, by go_num, ZD.out, ZK.out⟩, by simp [intOf]; omega⟩
    · have c2 := hd.c2
      have f2 := hd.fz 2
      have HD1 := hide hd
      have HK1 := hide hkp
      have hkn : k = n := by omega
      have HKN := hide hkn
      clear hd hkp hkn
      go_wp2
      go_ret
      refine ⟨rfl, ?_, HK1.out.setCell D 2 _ (.inl (.inl rfl))⟩
      have := HD1.out.turnLoose (Keeps.refl (fun _ => False) _) (fun _ _ h => h.elim) [] (v1 := .slice none 0 0) ⟨rfl, .inl ⟨rfl, rfl⟩⟩ (fun b e => by simp [Value.ownBlock] at e) (fun _ h => by simp at h) (by simp)
      rw [HKN.out, HN.out] at this
      exact this
theorem flush_in {w : World} {D N L : Nat} {v : Value} {s : St} (h : DiskIn w D N L v s) (hp : s.power = true) :
    Calls Try.prog 29 #[.pointer (some ⟨D, 0, none⟩)] w fun e w' =>
      e = .returned (.int .i64 0) ∧ DiskIn w' D N L (.slice none 0 0) s.spent.flush ∧ Keeps (fun b => b = D ∨ b = L) w w' := by
  obtain ⟨a, cap, rfl, _, hg⟩ := h.form
  exact flush_some h rfl hg hp
end Go.Proofs.Ytbecchoidglaeaa
/- Crash: what it turns. -/
namespace Go.Proofs.Ytbecchoidglaeaa
open Go.RowKit
set_option maxRecDepth 100000

theorem step_copy {P : Program} {ops : Array Oper} {o : Oper} {a : Act} {w w' : World} {K : Act → World → Prop} {Q : Exit → Act → World → Prop} {E : Prop} (hgd : o.guard = none) (d s : Operand) (dT sT : TypeId)
    (ho : o.op = .call { callee := .builtin .copy, args := #[d, s], argTypes := #[dT, sT] }) (p v r : Value) (hd : a.eval d = p) (hs : a.eval s = v) (hr : ∀ ty, (Builtin.copy_ #[dT, sT] ty #[p, v]).run P w = .ok r w') (h : K (a.put o.dst r) w') :
    if Region.wanted o (yielded ops a.tmps) = true then Oper.wp P o a w K Q else E := by
  have hw : Region.wanted o (yielded ops a.tmps) = true := by simp [Region.wanted, hgd]
  rw [if_pos hw]
  unfold Oper.wp execOp
  simp only [ho, resolve, invoke, builtin, Sem.run_bind, Sem.run_pure, Result.andThen_ok, List.map_toArray, List.map_cons, List.map_nil, hd, hs, hr]
  exact h
/-- copy of the first m bytes of a page (or of none). -/
theorem run_copy_bytes (w : World) (g o h oh m c1 c2 : Nat) (f : Nat → Nat) (ty : TypeId) (hr : w.rangeAt h oh (valsOf f 64)) (ht : w.there g o 64) (hm : m ≤ 64) :
    (Builtin.copy_ #[37, 37] ty #[.slice (some ⟨g, o, none⟩) m c1, .slice (some ⟨h, oh, none⟩) m c2]).run Try.prog w = .ok (goInt (m : Int)) (w.setCells g o (valsOf f m)) := by
  have := run_copy_cells (P := Try.prog) w 37 37 ty 5 g o m c1 ⟨h, oh, none⟩ m c2 (valsOf f m) Try.underlying37 Try.size5 (by rw [valsOf_length]; simp)
    (fun j v hv => by
      have hj : j < m := by simpa [valsOf_length] using (List.getElem?_eq_some_iff.1 hv).1
      rw [valsOf_get _ _ _ hj] at hv
      rw [Addr.add_mid]
      exact hr j v (by rw [valsOf_get _ _ _ (by omega)]; exact hv))
    (fun j hj => (ht j (by rw [valsOf_length] at hj; omega)).1) (fun j hj => (ht j (by rw [valsOf_length] at hj; omega)).2) (valsOf_one f m)
  rw [this, valsOf_length]
/-- All bytes of n pages. -/
def flat (g : Nat → Nat → Nat) (n : Nat) : List Value := valsOf (fun k => g (k / 64) (k % 64)) (n * 64)
theorem Grid.flat {w : World} {b n : Nat} {g : Nat → Nat → Nat} (h : Grid w b n g) : ∀ j v, (flat g n)[j]? = some v → w.cell? ⟨b, j, none⟩ = some v := by
  intro j v hv
  have hj : j < n * 64 := by simpa [Go.Proofs.Ytbecchoidglaeaa.flat, valsOf_length] using (List.getElem?_eq_some_iff.1 hv).1
  rw [Go.Proofs.Ytbecchoidglaeaa.flat, valsOf_get _ _ _ hj] at hv
  have := (h.2 (j / 64) (by omega) (j % 64) (by omega)).1
  rw [show j / 64 * 64 + j % 64 = j from by omega] at this
  rw [this, hv]
theorem Grid.whole {w : World} {b n : Nat} {g : Nat → Nat → Nat} (h : Grid w b n g) : w.there b 0 (n * 64) := by
  intro j hj
  have := h.2 (j / 64) (by omega) (j % 64) (by omega)
  rw [show j / 64 * 64 + j % 64 = j from by omega] at this
  rw [Nat.zero_add]
  exact ⟨by rw [this.1]; rfl, this.2⟩
theorem Grid.storeAll {w : World} {b n : Nat} {g g' : Nat → Nat → Nat} (h : Grid w b n g) : Grid (w.setCells b 0 (Go.Proofs.Ytbecchoidglaeaa.flat g' n)) b n g' := by
  refine ⟨by rw [size_setCells]; exact h.1, fun i hi j hj => ⟨?_, by rw [World.frozen?_setCells]; exact (h.2 i hi j hj).2⟩⟩
  have hlen : (Go.Proofs.Ytbecchoidglaeaa.flat g' n).length = n * 64 := valsOf_length _ _
  have hlt : i * 64 + j < (Go.Proofs.Ytbecchoidglaeaa.flat g' n).length := by rw [hlen]; omega
  have := World.cell?_setCells_in b (Go.Proofs.Ytbecchoidglaeaa.flat g' n) 0 w (fun q hq => (h.whole q (by omega)).1) (i * 64 + j) hlt
  rw [Nat.zero_add] at this
  rw [this]
  unfold Go.Proofs.Ytbecchoidglaeaa.flat at hlt ⊢
  rw [valsOf_getElem, show (i * 64 + j) / 64 = i from by omega, show (i * 64 + j) % 64 = j from by omega]
theorem run_copy_pages (w : World) (N L n : Nat) (now lasts : Nat → Nat → Nat) (ty : TypeId) (hn : Grid w N n now) (hl : Grid w L n lasts) :
    (Builtin.copy_ #[67, 67] ty #[.slice (some ⟨N, 0, none⟩) n n, .slice (some ⟨L, 0, none⟩) n n]).run Try.prog w = .ok (goInt (n : Int)) (w.setCells N 0 (flat lasts n)) := by
  have hlen : (flat lasts n).length = n * 64 := valsOf_length _ _
  have h1 := run_loadCells_list (P := Try.prog) w ⟨L, 0, none⟩ (flat lasts n) (fun j v hv => by rw [Addr.add_mid, Nat.zero_add]; exact hl.flat j v hv)
  have h2 := run_storeCells_cells (P := Try.prog) N 0 (flat lasts n) 0 w (fun j hj => by simpa using (hn.whole j (by omega)).1) (fun j hj => by simpa using (hn.whole j (by omega)).2) (valsOf_one _ _)
  obtain ⟨i0, hi0, hz0, hz1, hz2⟩ := info_parts Try.zero93
  simp [Builtin.copy_, run_underlying Try.underlying67, Builtin.lenOf, Builtin.firstCells, sizeOf, typeInfo, hi0, hz1, ← hlen, h1, h2]
theorem DiskIn.storeAll {w : World} {D N L : Nat} {v : Value} {s : St} (h : DiskIn w D N L v s) :
    DiskIn (w.setCells N 0 (flat s.lasts s.n)) D N L v { s with now := s.lasts } := by
  have hk : Keeps (fun b => b = N) w (w.setCells N 0 (flat s.lasts s.n)) := (Keeps.refl _ _).setCells N _ _ (.inl rfl)
  exact
  { h with
    block := by rw [heap_setCells N _ _ _ D h.dn]; exact h.block
    gn := h.gn.storeAll
    gl := h.gl.keeps hk (Ne.symm h.nl)
    own := by
      refine ⟨h.own.1, ?_⟩
      rcases h.own.2 with hh | ⟨g, cap, cur, e, hb, hg, rest⟩
      · exact .inl hh
      · refine .inr ⟨g, cap, cur, e, hb, ?_, rest⟩
        have e2 : v.ownBlock = some g := by rw [e]; rfl
        rw [heap_setCells N _ _ _ g (fun e3 => by subst e3; exact h.vn e2)]
        exact hg }
/-- What Crash(keep, torn, at) makes last. -/
def St.landed (s : St) (keep : Nat) (torn at_ : Int) (k : Nat) : Nat → Nat → Nat := lay (fun i => lands i keep torn at_) s.lo s.lasts k
/-- Crash(keep, torn, at). -/
def St.crash (s : St) (keep : Nat) (torn at_ : Int) : St :=
  { s with now := s.landed keep torn at_ s.lo.length, lasts := s.landed keep torn at_ s.lo.length, lo := [], fused := false, left := 0, down := false }

set_option maxHeartbeats 400000 in
theorem crash_nil (keep torn at_ : Int) (w : World) : Calls Try.prog 20 #[.pointer none, .int .u64 keep, .int .i64 torn, .int .i64 at_] w fun e w' => e = .returned (.tuple #[]) ∧ w' = w := by
  go_enter Try.func20, Try.ntmps20
  go_wp2
  refine bodyPost_ret (results_none rfl _ _ _) rfl ?_
  exact ⟨rfl, rfl⟩

set_option maxRecDepth 100000 in
set_option maxHeartbeats 1600000 in
theorem crash_some {w : World} {D N L : Nat} {a : Option Addr} {n cap : Nat} {s : St} (h : DiskIn w D N L (.slice a n cap) s) (hn : n = s.lo.length) (ha : 0 < n → ∃ g, a = some ⟨g, 0, none⟩)
    (keep : Nat) (torn at_ : Int) (hkeep : keep < 18446744073709551616) (hat : -9223372036854775808 ≤ at_ ∧ at_ ≤ 9223372036854775807) :
    Calls Try.prog 20 #[.pointer (some ⟨D, 0, none⟩), .int .u64 (keep : Int), .int .i64 torn, .int .i64 at_] w fun e w' =>
      e = .returned (.tuple #[]) ∧ DiskIn w' D N L (.slice none 0 0) (s.crash keep torn at_) ∧ Keeps (fun b => b = D ∨ b = N ∨ b = L) w w' := by
  have HD := hide h
  have HN := hide hn
  have HA := hide ha
  have hnb : n ≤ 1000000 := by rw [hn]; exact h.many
  have hd2 := h.c2
  clear h hn ha
  go_enter Try.func20, Try.ntmps20
  go_wp2
  go_loopw [18] (fun i wq => ∃ k : Nat, k ≤ n ∧ i = .int .i64 k ∧ DiskIn wq D N L (.slice a n cap) (s.lastly (s.landed keep torn at_ k)) ∧ Keeps (fun b => b = D ∨ b = N ∨ b = L) w wq) (fun i _ => n - (intOf i).toNat)
  case atStart => exact ⟨0, Nat.zero_le _, rfl, HD.out, Keeps.refl _ _⟩
  case round =>
    obtain ⟨k, hk, rfl, hd, hkp⟩ := hrel
    by_cases hlt : k < n
    · obtain ⟨g, rfl⟩ := HA.out (by omega)
      obtain ⟨x, hx⟩ : ∃ x, s.lo[k]? = some x := ⟨_, List.getElem?_eq_getElem (by rw [← HN.out]; exact hlt)⟩
      have HX := hide hx
      have hxa : x.1 < s.n := hd.ats x (List.mem_of_getElem? hx)
      have HR := hide (write_load wr g (k * 65) x (hd.looseAt k x hx))
      have HD1 := hide hd
      have HK1 := hide hkp
      have c1 : wr.cell? ⟨D, 1, none⟩ = some (.slice (some ⟨L, 0, none⟩) s.n s.n) := hd.c1
      have hth := hd.gl.thereAt x.1 hxa
      have hL : L < wr.heap.size := hd.gl.1
      have hD : D < wr.heap.size := hd.lt
      have hdl := hd.dl
      have hx0 : (0 : Int) ≤ (x.1 : Int) := Int.natCast_nonneg _
      have hx1 : (x.1 : Int) < (s.n : Int) := by omega
      clear hd hkp hx hd2 HD
      go_wp2_with (first
        | ((with_reducible refine wpl_load 95 _ (.pointer (some ⟨g, k * 65, none⟩)) _ ?_ HR.out ?_); (· rfl))
        | (with_reducible refine wpl_alloc 95 _ (run_alloc_write _) ?_)
        | ((with_reducible refine wpl_store 95 _ _ (.pointer (some ⟨wr.heap.size, 0, none⟩)) (.agg (wcl x).toArray) ?_ ?_ (run_store_write _ _ _) ?_); (· rfl); (· rfl)))
      refine (landing_any k keep torn at_ _ (by omega) hkeep hat).mono ?_
      rintro e w2 ⟨rfl, rfl⟩
      have hm := lands_le k keep torn at_
      have x1 : (wr.alloc (Obj.cells (wcl x).toArray 95)).cell? ⟨D, 1, none⟩ = some (.slice (some ⟨L, 0, none⟩) s.n s.n) := by rw [World.cell?_alloc_lt _ _ _ hD]; exact c1
      have xh : (wr.alloc (Obj.cells (wcl x).toArray 95)).heap[wr.heap.size]? = some (.cells (wcl x).toArray 95 (0, 0)) := heap_alloc_last wr _
      have xa : (wr.alloc (Obj.cells (wcl x).toArray 95)).cell? ⟨wr.heap.size, 0, none⟩ = some (.int .i64 (x.1 : Int)) := by rw [cell_of_row _ _ _ _ _ _ xh]; simp [wcl]
      have xr : (wr.alloc (Obj.cells (wcl x).toArray 95)).rangeAt wr.heap.size 1 (valsOf x.2 64) := fun j v hv => by
        rw [cell_of_row _ _ _ _ _ _ xh, Nat.add_comm]
        simpa [wcl] using hv
      have xt := World.there_alloc hth (Obj.cells (wcl x).toArray 95)
      have XK : Hid (Keeps (fun b => b = D ∨ b = N ∨ b = L) w (wr.alloc (Obj.cells (wcl x).toArray 95))) := HK1.out.alloc _
      have XD : Hid (DiskIn (wr.alloc (Obj.cells (wcl x).toArray 95)) D N L (.slice (some ⟨g, 0, none⟩) n cap) (s.lastly (s.landed keep torn at_ k))) := HD1.out.keeps (F := fun _ => False) ((Keeps.refl _ _).alloc _) (fun _ _ h => h)
      have HL : Hid (s.landed keep torn at_ (k + 1) = putPage (s.landed keep torn at_ k) x.1 (lands k keep torn at_) x.2) := lay_succ _ _ _ k x HX.out
      clear c1 hth HD1 HK1 HR xh
      generalize wr.alloc (Obj.cells (wcl x).toArray 95) = X at *
      have hHD : wr.heap.size ≠ D := by omega
      have hHL : wr.heap.size ≠ L := by omega
      generalize wr.heap.size = HH1 at *
      generalize lands k keep torn at_ = m at *
      have hm0 : (0 : Int) ≤ (m : Int) := Int.natCast_nonneg _
      have hm1 : (m : Int) ≤ 64 := by omega
      go_wp2_with fail
      go_region_held3 (fun w' => w'.cell? ⟨D, 1, none⟩ = some (.slice (some ⟨L, 0, none⟩) s.n s.n) ∧ w'.cell? ⟨HH1, 0, none⟩ = some (.int .i64 (x.1 : Int)))
        (first
          | (go_split_ands
             refine ⟨?_, ?_⟩
             · (first | assumption | (simp only [World.cell?_drew]; assumption) | (rw [World.cell?_setCells_out _ _ _ _ _ (fun e _ => absurd e hdl)]; assumption))
             · (first | assumption | (simp only [World.cell?_drew]; assumption) | (rw [World.cell?_setCells_out _ _ _ _ _ (fun e _ => absurd e hHL)]; assumption))))
        ((refine step_copy (by rfl) _ _ 37 37 (by rfl) (.slice (some ⟨L, x.1 * 64, none⟩) m 64) (.slice (some ⟨HH1, 1, none⟩) m 64) _ (by rfl) (by rfl) (fun ty => run_copy_bytes _ L (x.1 * 64) HH1 1 m 64 64 x.2 ty (by simpa using xr) (by simpa using xt) hm) ?_))
      have ZD : Hid (DiskIn (X.drew.setCells L (x.1 * 64) (valsOf x.2 m)) D N L (.slice (some ⟨g, 0, none⟩) n cap) (s.lastly (s.landed keep torn at_ (k + 1)))) := by
        rw [HL.out]
        exact XD.out.drew.storeLasts x.1 hxa m hm x.2
      have ZK : Hid (Keeps (fun b => b = D ∨ b = N ∨ b = L) w (X.drew.setCells L (x.1 * 64) (valsOf x.2 m))) := XK.out.drew.setCells L _ _ (.inl (.inr (.inr rfl)))
      clear x1 xa xr xt XK XD HL
      generalize X.drew.setCells L (x.1 * 64) (valsOf x.2 m) = Y at *
      go_wp2
      exact ⟨⟨k + 1, by omega, by go_num, ZD.out, ZK.out⟩, by simp [intOf]; omega⟩
    · have c0 : wr.cell? ⟨D, 0, none⟩ = some (.slice (some ⟨N, 0, none⟩) s.n s.n) := hd.c0
      have c1 : wr.cell? ⟨D, 1, none⟩ = some (.slice (some ⟨L, 0, none⟩) s.n s.n) := hd.c1
      have hdn := hd.dn
      have HD1 := hide hd
      have HK1 := hide hkp
      have hkn : k = n := by omega
      have HKN := hide hkn
      have gn : Grid wr N s.n s.now := hd.gn
      have gl : Grid wr L s.n (s.landed keep torn at_ k) := hd.gl
      have GN := hide gn
      have GL := hide gl
      clear hd hkp hkn gn gl
      go_wp2_with fail
      go_region_held3 (fun w' => w'.cell? ⟨D, 0, none⟩ = some (.slice (some ⟨N, 0, none⟩) s.n s.n) ∧ w'.cell? ⟨D, 1, none⟩ = some (.slice (some ⟨L, 0, none⟩) s.n s.n))
        (first
          | (go_split_ands
             refine ⟨?_, ?_⟩
             · (first | assumption | (simp only [World.cell?_drew]; assumption) | (rw [World.cell?_setCells_out _ _ _ _ _ (fun e _ => absurd e hdn)]; assumption))
             · (first | assumption | (simp only [World.cell?_drew]; assumption) | (rw [World.cell?_setCells_out _ _ _ _ _ (fun e _ => absurd e hdn)]; assumption))))
        ((refine step_copy (by rfl) _ _ 67 67 (by rfl) (.slice (some ⟨N, 0, none⟩) s.n s.n) (.slice (some ⟨L, 0, none⟩) s.n s.n) _ (by rfl) (by rfl) (fun ty => run_copy_pages _ N L s.n _ _ ty GN.out.drew GL.out.drew) ?_))
      have ZD : Hid (DiskIn (wr.drew.setCells N 0 (flat (s.landed keep torn at_ k) s.n)) D N L (.slice a n cap) { s with now := s.landed keep torn at_ k, lasts := s.landed keep torn at_ k }) := HD1.out.drew.storeAll
      have ZK : Hid (Keeps (fun b => b = D ∨ b = N ∨ b = L) w (wr.drew.setCells N 0 (flat (s.landed keep torn at_ k) s.n))) := HK1.out.drew.setCells N _ _ (.inl (.inr (.inl rfl)))
      clear c0 c1 HD1 HK1 GN GL HA HD hd2
      rw [HKN.out, HN.out] at ZD ZK
      rw [HKN.out, HN.out]
      generalize wr.drew.setCells N 0 (flat (s.landed keep torn at_ s.lo.length) s.n) = Y at *
      have d2 := ZD.out.c2
      have d3 := ZD.out.c3
      have d4 := ZD.out.c4
      have d5 := ZD.out.c5
      have f2 := ZD.out.fz 2
      have f3 := ZD.out.fz 3
      have f4 := ZD.out.fz 4
      have f5 := ZD.out.fz 5
      go_wp2
      go_end0
      refine ⟨rfl, ?_, (((ZK.out.setCell D 2 _ (.inl (.inl rfl))).setCell D 3 _ (.inl (.inl rfl))).setCell D 4 _ (.inl (.inl rfl))).setCell D 5 _ (.inl (.inl rfl))⟩
      have h1 := ZD.out.turnLoose (Keeps.refl (fun _ => False) _) (fun _ _ h => h.elim) [] (v1 := .slice none 0 0) ⟨rfl, .inl ⟨rfl, rfl⟩⟩ (fun b e => by simp [Value.ownBlock] at e) (fun _ h => by simp at h) (by simp)
      have hb := heap_set_at _ D 3 _ _ _ (.bool false) h1.block
      have hb2 := heap_set_at _ D 4 _ _ _ (.int .i64 0) hb
      have hb3 := heap_set_at _ D 5 _ _ _ (.bool false) hb2
      exact h1.fuseSet false 0 false (by omega) _ ((((Keeps.refl (fun b => b = D) _).setCell D 3 _ (.inl rfl)).setCell D 4 _ (.inl rfl)).setCell D 5 _ (.inl rfl)) hb3
theorem crash_in {w : World} {D N L : Nat} {v : Value} {s : St} (h : DiskIn w D N L v s) (keep : Nat) (torn at_ : Int) (hkeep : keep < 18446744073709551616) (hat : -9223372036854775808 ≤ at_ ∧ at_ ≤ 9223372036854775807) :
    Calls Try.prog 20 #[.pointer (some ⟨D, 0, none⟩), .int .u64 (keep : Int), .int .i64 torn, .int .i64 at_] w fun e w' =>
      e = .returned (.tuple #[]) ∧ DiskIn w' D N L (.slice none 0 0) (s.crash keep torn at_) ∧ Keeps (fun b => b = D ∨ b = N ∨ b = L) w w' := by
  obtain ⟨a, cap, rfl, _, hg⟩ := h.form
  exact crash_some h rfl hg keep torn at_ hkeep hat
end Go.Proofs.Ytbecchoidglaeaa
/- A disk that the call itself has made ('Own'), its functions in that form. -/
namespace Go.Proofs.Ytbecchoidglaeaa
open Go.RowKit
set_option maxRecDepth 100000

/-- The disk at block D is s; all its blocks are new since block B. -/
def Own (B : Nat) (w : World) (D : Nat) (s : St) : Prop := B ≤ w.heap.size ∧ ∃ N L v, DiskIn w D N L v s ∧ ∀ b, foot D N L v b → B ≤ b
theorem Own.D {B : Nat} {w : World} {D : Nat} {s : St} (h : Own B w D s) : B ≤ D ∧ D < w.heap.size := by
  obtain ⟨hb, N, L, v, h, hf⟩ := h
  exact ⟨hf D (.inl rfl), h.lt⟩
theorem Own.later {B : Nat} {w w' : World} {D : Nat} {s : St} (h : Own B w D s) (hb : Below w.heap.size w w') : Own B w' D s := by
  obtain ⟨hB, N, L, v, h, hf⟩ := h
  exact ⟨Nat.le_trans hB hb.size, N, L, v, h.keeps (F := fun _ => False) (Keeps.of_below hb _) (fun _ _ h => h), hf⟩
theorem Own.alloc {B : Nat} {w : World} {D : Nat} {s : St} (h : Own B w D s) (o : Obj) : Own B (w.alloc o) D s := h.later ((Below.refl _ _).alloc (Nat.le_refl _) o)
theorem Own.drew {B : Nat} {w : World} {D : Nat} {s : St} (h : Own B w D s) : Own B w.drew D s := h.later ⟨rfl, rfl, rfl, Nat.le_refl _, fun _ _ => rfl⟩
theorem below_le {B C : Nat} {w w' : World} (h : Below C w w') (hB : B ≤ C) : Below B w w' := ⟨h.os, h.tape, h.output, h.size, fun k hk => h.block k (by omega)⟩
theorem own_of {B : Nat} {w w' : World} {D N L : Nat} {v v' : Value} {s' : St} {F : Nat → Prop} (hB : B ≤ w.heap.size) (hf : ∀ b, foot D N L v b → B ≤ b) (h' : DiskIn w' D N L v' s') (hk : Keeps F w w') (hF : ∀ b, F b → foot D N L v b)
    (hv : ∀ b, v'.ownBlock = some b → v.ownBlock = some b ∨ w.heap.size ≤ b) : Own B w' D s' ∧ Below B w w' := by
  refine ⟨⟨Nat.le_trans hB hk.size, N, L, v', h', fun b hb => ?_⟩, hk.below B hB (fun b hb => hf b (hF b hb))⟩
  rcases hb with e | e | e | e
  · exact hf b (.inl e)
  · exact hf b (.inr (.inl e))
  · exact hf b (.inr (.inr (.inl e)))
  · rcases hv b e with h1 | h1
    · exact hf b (.inr (.inr (.inr h1)))
    · omega
section
variable {B : Nat} {w : World} {D : Nat} {s : St}
theorem own_new (n : Int) (w : World) (hn : -9223372036854775808 ≤ n ∧ n ≤ 9223372036854775807) : Calls Try.prog 10 #[.int .i64 n] w fun e w' =>
    ∃ D, e = .returned (.pointer (some ⟨D, 0, none⟩)) ∧ Own w.heap.size w' D (St.made (clamp n 1024).toNat) ∧ Below w.heap.size w w' := by
  refine (new_any n w hn).mono ?_
  rintro e w' ⟨D, F, rfl, ⟨N, L, v, h, rfl⟩, hf, hb⟩
  exact ⟨D, rfl, ⟨hb.size, N, L, v, h, hf⟩, hb⟩
theorem own_write (h : Own B w D s) (i : Int) (hi0 : 0 ≤ i) (hi : i < s.n) (a : Option Addr) (len cap : Nat) (f : Nat → Nat) (hl : len ≤ 64) (hp : s.power = true)
    (hm : s.lo.length < 1000000) (hr : Rw w a len f) (ha : ∀ x, a = some x → 0 < len → x.block ≠ D) :
    Calls Try.prog 28 #[.pointer (some ⟨D, 0, none⟩), .int .i64 i, .slice a len cap] w fun e w' =>
      e = .returned (.int .i64 0) ∧ Own B w' D (s.spent.write i.toNat (fill f len)) ∧ Below B w w' := by
  obtain ⟨i, rfl⟩ := Int.eq_ofNat_of_zero_le hi0
  obtain ⟨hB, N, L, v, h, hf⟩ := h
  refine (write_in h i (by omega) a len cap f hl hp hm hr ha).mono ?_
  rintro e w' ⟨rfl, v', h', hk, hv⟩
  exact ⟨rfl, own_of hB hf h' hk (fun b hb => hb) hv⟩
theorem own_write_down (h : Own B w D s) (i : Int) (hi0 : 0 ≤ i) (hi : i < s.n) (a : Option Addr) (len cap : Nat) (hl : len ≤ 64) (hp : s.power = false) :
    Calls Try.prog 28 #[.pointer (some ⟨D, 0, none⟩), .int .i64 i, .slice a len cap] w fun e w' =>
      e = .returned (.int .i64 4) ∧ Own B w' D s.spent ∧ Below B w w' := by
  obtain ⟨i, rfl⟩ := Int.eq_ofNat_of_zero_le hi0
  obtain ⟨hB, N, L, v, h, hf⟩ := h
  refine (write_down h i (by omega) a len cap hl hp).mono ?_
  rintro e w' ⟨rfl, h', hk⟩
  exact ⟨rfl, own_of hB hf h' hk (fun b hb => .inl hb) (fun b hb => .inl hb)⟩
theorem own_flush (h : Own B w D s) (hp : s.power = true) :
    Calls Try.prog 29 #[.pointer (some ⟨D, 0, none⟩)] w fun e w' => e = .returned (.int .i64 0) ∧ Own B w' D s.spent.flush ∧ Below B w w' := by
  obtain ⟨hB, N, L, v, h, hf⟩ := h
  refine (flush_in h hp).mono ?_
  rintro e w' ⟨rfl, h', hk⟩
  exact ⟨rfl, own_of hB hf h' hk (fun b hb => by rcases hb with e | e; exact .inl e; exact .inr (.inr (.inl e))) (fun b hb => by simp [Value.ownBlock] at hb)⟩
theorem own_flush_down (h : Own B w D s) (hp : s.power = false) :
    Calls Try.prog 29 #[.pointer (some ⟨D, 0, none⟩)] w fun e w' => e = .returned (.int .i64 4) ∧ Own B w' D s.spent ∧ Below B w w' := by
  obtain ⟨hB, N, L, v, h, hf⟩ := h
  refine (flush_down h hp).mono ?_
  rintro e w' ⟨rfl, h', hk⟩
  exact ⟨rfl, own_of hB hf h' hk (fun b hb => .inl hb) (fun b hb => .inl hb)⟩
theorem own_crash (h : Own B w D s) (keep torn at_ : Int) (hk0 : 0 ≤ keep) (hkeep : keep < 18446744073709551616) (hat : -9223372036854775808 ≤ at_ ∧ at_ ≤ 9223372036854775807) :
    Calls Try.prog 20 #[.pointer (some ⟨D, 0, none⟩), .int .u64 keep, .int .i64 torn, .int .i64 at_] w fun e w' =>
      e = .returned (.tuple #[]) ∧ Own B w' D (s.crash keep.toNat torn at_) ∧ Below B w w' := by
  obtain ⟨keep, rfl⟩ := Int.eq_ofNat_of_zero_le hk0
  obtain ⟨hB, N, L, v, h, hf⟩ := h
  refine (crash_in h keep torn at_ (by omega) hat).mono ?_
  rintro e w' ⟨rfl, h', hk⟩
  exact ⟨rfl, own_of hB hf h' hk (fun b hb => by rcases hb with e | e | e; exact .inl e; exact .inr (.inl e); exact .inr (.inr (.inl e))) (fun b hb => by simp [Value.ownBlock] at hb)⟩
theorem own_fuse (h : Own B w D s) (n : Int) (hn : n ≤ 9223372036854775807) :
    Calls Try.prog 19 #[.pointer (some ⟨D, 0, none⟩), .int .i64 n] w fun e w' => e = .returned (.tuple #[]) ∧ Own B w' D (s.fuse n) ∧ Below B w w' := by
  obtain ⟨hB, N, L, v, h, hf⟩ := h
  refine (fuse_in h n hn).mono ?_
  rintro e w' ⟨rfl, h', hk⟩
  exact ⟨rfl, own_of hB hf h' hk (fun b hb => .inl hb) (fun b hb => .inl hb)⟩
theorem own_read (h : Own B w D s) (i : Int) (hi0 : 0 ≤ i) (hi : i < s.n) :
    Calls Try.prog 27 #[.pointer (some ⟨D, 0, none⟩), .int .i64 i] w fun e w' => ∃ b, e = .returned (.tuple #[.slice (some ⟨b, 0, none⟩) 64 64, .int .i64 0]) ∧ Rw w' (some ⟨b, 0, none⟩) 64 (s.now i.toNat) ∧ w.heap.size ≤ b ∧ Own B w' D s ∧ Below w.heap.size w w' := by
  obtain ⟨i, rfl⟩ := Int.eq_ofNat_of_zero_le hi0
  have H := h
  obtain ⟨hB, N, L, v, h, hf⟩ := h
  refine (read_in h i (by omega)).mono ?_
  rintro e w' ⟨rfl, rfl⟩
  exact ⟨_, rfl, rw_page w _ _, Nat.le_refl _, H.alloc _, (Below.refl _ _).alloc (Nat.le_refl _) _⟩
theorem own_lasts (h : Own B w D s) (i : Int) (hi0 : 0 ≤ i) (hi : i < s.n) :
    Calls Try.prog 54 #[.pointer (some ⟨D, 0, none⟩), .int .i64 i] w fun e w' => ∃ b, e = .returned (.tuple #[.slice (some ⟨b, 0, none⟩) 64 64, .int .i64 0]) ∧ Rw w' (some ⟨b, 0, none⟩) 64 (s.lasts i.toNat) ∧ w.heap.size ≤ b ∧ Own B w' D s ∧ Below w.heap.size w w' := by
  obtain ⟨i, rfl⟩ := Int.eq_ofNat_of_zero_le hi0
  have H := h
  obtain ⟨hB, N, L, v, h, hf⟩ := h
  refine (lasts_in h i (by omega)).mono ?_
  rintro e w' ⟨rfl, rfl⟩
  exact ⟨_, rfl, rw_page w _ _, Nat.le_refl _, H.alloc _, (Below.refl _ _).alloc (Nat.le_refl _) _⟩
theorem own_len (h : Own B w D s) : Calls Try.prog 31 #[.pointer (some ⟨D, 0, none⟩)] w fun e w' => e = .returned (.int .i64 (s.n : Int)) ∧ w' = w := by
  obtain ⟨hB, N, L, v, h, hf⟩ := h
  exact len_in h
theorem own_loose (h : Own B w D s) : Calls Try.prog 55 #[.pointer (some ⟨D, 0, none⟩)] w fun e w' => e = .returned (.int .i64 (s.lo.length : Int)) ∧ w' = w := by
  obtain ⟨hB, N, L, v, h, hf⟩ := h
  exact loose_in h
end

end Go.Proofs.Ytbecchoidglaeaa
/- All bytes of a disk are bytes, whatever is done with it: the basics. -/
namespace Go.Proofs.Ytbecchoidglaeaa
open Go.RowKit
set_option maxRecDepth 100000

/-- All numbers on a disk, and of what is loose, are bytes. -/
structure Bts (s : St) : Prop where
  now : ∀ i j, s.now i j < 256
  lasts : ∀ i j, s.lasts i j < 256
  lo : ∀ x ∈ s.lo, ∀ j, x.2 j < 256
theorem bts_put {g : Nat → Nat → Nat} (h : ∀ i j, g i j < 256) {p : Nat → Nat} (hp : ∀ j, p j < 256) (k m : Nat) : ∀ i j, putPage g k m p i j < 256 := fun i j => by
  unfold putPage
  split
  · exact hp j
  · exact h i j
theorem bts_lay (m : Nat → Nat) {lo : List (Nat × (Nat → Nat))} (hl : ∀ x ∈ lo, ∀ j, x.2 j < 256) {g : Nat → Nat → Nat} (h : ∀ i j, g i j < 256) : ∀ k, k ≤ lo.length → ∀ i j, lay m lo g k i j < 256
  | 0, _ => h
  | k + 1, hk => by
    obtain ⟨x, hx⟩ : ∃ x, lo[k]? = some x := ⟨_, List.getElem?_eq_getElem (by omega)⟩
    rw [lay_succ m lo g k x hx]
    exact bts_put (bts_lay m hl h k (by omega)) (hl x (List.mem_of_getElem? hx)) _ _
theorem bts_made (n : Nat) : Bts (St.made n) := ⟨fun _ _ => by show 0 < 256; omega, fun _ _ => by show 0 < 256; omega, fun x hx => by cases hx⟩
theorem Bts.spent {s : St} (h : Bts s) : Bts s.spent := ⟨h.now, h.lasts, h.lo⟩
theorem Bts.fuse {s : St} (h : Bts s) (n : Int) : Bts (s.fuse n) := ⟨h.now, h.lasts, h.lo⟩
theorem Bts.write {s : St} (h : Bts s) (i : Nat) {p : Nat → Nat} (hp : ∀ j, p j < 256) : Bts (s.write i p) := ⟨bts_put h.now hp _ _, h.lasts, fun x hx => by
  rcases List.mem_append.1 hx with hx | hx
  · exact h.lo x hx
  · simp at hx; subst hx; exact hp⟩
theorem Bts.flush {s : St} (h : Bts s) : Bts s.flush := ⟨h.now, bts_lay _ h.lo h.lasts _ (Nat.le_refl _), fun x hx => by cases hx⟩
theorem Bts.crash {s : St} (h : Bts s) (keep : Nat) (torn k : Int) : Bts (s.crash keep torn k) := ⟨bts_lay _ h.lo h.lasts _ (Nat.le_refl _), bts_lay _ h.lo h.lasts _ (Nat.le_refl _), fun x hx => by cases hx⟩
theorem bts_fill {f : Nat → Nat} {len : Nat} (hf : ∀ i, i < len → f i < 256) : ∀ j, fill f len j < 256 := fun j => by
  unfold fill
  split
  · rename_i h; exact hf j h
  · omega
end Go.Proofs.Ytbecchoidglaeaa
