/- Flush: what it answers, and what it turns. -/
import Derived.Test.YtbecchoidglaeaaWriteF
namespace Go.Proofs.Ytbecchoidglaeaa
open Go.RowKit
set_option maxRecDepth 100000

/-- The pages g, over which of the first k loose Writes the first m i bytes of number i were laid. -/
def lay (m : Nat → Nat) (lo : List (Nat × (Nat → Nat))) (g : Nat → Nat → Nat) : Nat → Nat → Nat → Nat
  | 0 => g
  | k + 1 => match lo[k]? with
    | some x => putPage (lay m lo g k) x.1 (m k) x.2
    | none => lay m lo g k
theorem lay_succ (m : Nat → Nat) (lo : List (Nat × (Nat → Nat))) (g : Nat → Nat → Nat) (k : Nat) (x : Nat × (Nat → Nat)) (h : lo[k]? = some x) : lay m lo g (k + 1) = putPage (lay m lo g k) x.1 (m k) x.2 := by
  simp only [lay, h]
/-- A store into the first bytes of one page of 'lasts'. -/
theorem DiskIn.storeLasts {w : World} {D N L : Nat} {v : Value} {s : St} (h : DiskIn w D N L v s) (i : Nat) (hi : i < s.n) (m : Nat) (hm : m ≤ 64) (p : Nat → Nat) :
    DiskIn (w.setCells L (i * 64) (valsOf p m)) D N L v { s with lasts := putPage s.lasts i m p } := by
  have hk : Keeps (fun b => b = L) w (w.setCells L (i * 64) (valsOf p m)) := (Keeps.refl _ _).setCells L _ _ (.inl rfl)
  exact
  { h with
    block := by rw [heap_setCells L _ _ _ D h.dl]; exact h.block
    gl := h.gl.store i hi m hm p
    gn := h.gn.keeps hk h.nl
    own := by
      refine ⟨h.own.1, ?_⟩
      rcases h.own.2 with hh | ⟨g, cap, cur, e, hb, hg, rest⟩
      · exact .inl hh
      · refine .inr ⟨g, cap, cur, e, hb, ?_, rest⟩
        have e2 : v.ownBlock = some g := by rw [e]; rfl
        rw [heap_setCells L _ _ _ g (fun e3 => by subst e3; exact h.vl e2)]
        exact hg }
/-- A loose Write, read. -/
theorem DiskIn.looseAt {w : World} {D N L g n cap : Nat} {s : St} (h : DiskIn w D N L (.slice (some ⟨g, 0, none⟩) n cap) s) (k : Nat) (x : Nat × (Nat → Nat)) (hx : s.lo[k]? = some x) : w.rangeAt g (k * 65) (wcl x) := by
  intro j u hu
  have hj : j < 65 := by simpa [wr_length] using (List.getElem?_eq_some_iff.1 hu).1
  have hk : k < s.lo.length := (List.getElem?_eq_some_iff.1 hx).1
  rcases h.own.2 with ⟨e, _⟩ | ⟨g', cap', cur, e, _, hg, hc, _, hs, ht⟩
  · cases e
  · injection e with e1 _ _
    injection e1 with e1
    injection e1 with e1 _ _
    subst e1
    rw [cell_of_row _ _ _ _ _ _ hg]
    have hlt : k * 65 + j < s.lo.length * 65 := by omega
    have e3 := wrs_get s.lo k j x hx hj
    rw [← ht, List.getElem?_take_of_lt hlt] at e3
    rw [← hu, ← e3]
    simp
/-- The same disk with other lasting pages. -/
def St.lastly (s : St) (g : Nat → Nat → Nat) : St := { s with lasts := g }
/-- Flush() that is done. -/
def St.flush (s : St) : St := { s with lasts := lay (fun _ => 64) s.lo s.lasts s.lo.length, lo := [] }

set_option maxHeartbeats 400000 in
theorem flush_nil (w : World) : Calls Try.prog 29 #[.pointer none] w fun e w' => e = .returned (.int .i64 1) ∧ w' = w := by
  go_enter Try.func29, Try.ntmps29
  go_wp2
  go_ret
  exact ⟨rfl, rfl⟩
set_option maxHeartbeats 400000 in
theorem flush_down {w : World} {D N L : Nat} {v : Value} {s : St} (h : DiskIn w D N L v s) (hp : s.power = false) :
    Calls Try.prog 29 #[.pointer (some ⟨D, 0, none⟩)] w fun e w' => e = .returned (.int .i64 4) ∧ DiskIn w' D N L v s.spent ∧ Keeps (fun b => b = D) w w' := by
  have H := hide h
  have HP := hide hp
  clear h hp
  go_enter Try.func29, Try.ntmps29
  go_wp2_with fail
  refine (spend_in H.out).mono ?_
  rintro e w2 ⟨rfl, hd, hk⟩
  rw [HP.out]
  have HD := hide hd
  have HK := hide hk
  clear hd hk
  go_wp2
  go_ret
  exact ⟨rfl, HD.out, HK.out⟩

set_option maxRecDepth 100000 in
set_option maxHeartbeats 1600000 in
theorem flush_some {w : World} {D N L : Nat} {a : Option Addr} {n cap : Nat} {s : St} (h : DiskIn w D N L (.slice a n cap) s) (hn : n = s.lo.length) (ha : 0 < n → ∃ g, a = some ⟨g, 0, none⟩) (hp : s.power = true) :
    Calls Try.prog 29 #[.pointer (some ⟨D, 0, none⟩)] w fun e w' =>
      e = .returned (.int .i64 0) ∧ DiskIn w' D N L (.slice none 0 0) s.spent.flush ∧ Keeps (fun b => b = D ∨ b = L) w w' := by
  have H := hide h
  have HP := hide hp
  have HN := hide hn
  have HA := hide ha
  have hnb : n ≤ 1000000 := by rw [hn]; exact h.many
  clear h hp hn ha
  go_enter Try.func29, Try.ntmps29
  go_wp2_with fail
  refine (spend_in H.out).mono ?_
  rintro e w1 ⟨rfl, hd, hk⟩
  rw [HP.out]
  have HD := hide hd
  have HK := hide hk
  have hd2 := hd.c2
  clear hd hk
  go_wp2
  go_loopw [15] (fun i wq => ∃ k : Nat, k ≤ n ∧ i = .int .i64 k ∧ DiskIn wq D N L (.slice a n cap) (s.spent.lastly (lay (fun _ => 64) s.lo s.lasts k)) ∧ Keeps (fun b => b = D ∨ b = L) w wq) (fun i _ => n - (intOf i).toNat)
  case atStart => exact ⟨0, Nat.zero_le _, rfl, HD.out, HK.out.mono (fun _ _ h => .inl h)⟩
  case round =>
    obtain ⟨k, hk, rfl, hd, hkp⟩ := hrel
    by_cases hlt : k < n
    · obtain ⟨g, rfl⟩ := HA.out (by omega)
      obtain ⟨x, hx⟩ : ∃ x, s.lo[k]? = some x := ⟨_, List.getElem?_eq_getElem (by rw [← HN.out]; exact hlt)⟩
      have HX := hide hx
      have hxa : x.1 < s.n := hd.ats x (List.mem_of_getElem? hx)
      have HR := hide (write_load wr g (k * 65) x (hd.looseAt k x hx))
      have HD1 := hide hd
      have HK1 := hide hkp
      have c1 : wr.cell? ⟨D, 1, none⟩ = some (.slice (some ⟨L, 0, none⟩) s.n s.n) := hd.c1
      have hth := hd.gl.thereAt x.1 hxa
      have hL : L < wr.heap.size := hd.gl.1
      have hD : D < wr.heap.size := hd.lt
      have hdl := hd.dl
      have hx0 : (0 : Int) ≤ (x.1 : Int) := Int.natCast_nonneg _
      have hx1 : (x.1 : Int) < (s.n : Int) := by omega
      clear hd hkp hx hd2 HD HK
      go_wp2_with (first
        | ((with_reducible refine wpl_load 95 _ (.pointer (some ⟨g, k * 65, none⟩)) _ ?_ HR.out ?_); (· rfl))
        | (with_reducible refine wpl_alloc 95 _ (run_alloc_write _) ?_)
        | ((with_reducible refine wpl_store 95 _ _ (.pointer (some ⟨wr.heap.size, 0, none⟩)) (.agg (wcl x).toArray) ?_ ?_ (run_store_write _ _ _) ?_); (· rfl); (· rfl)))
      have x1 : (wr.alloc (Obj.cells (wcl x).toArray 95)).cell? ⟨D, 1, none⟩ = some (.slice (some ⟨L, 0, none⟩) s.n s.n) := by rw [World.cell?_alloc_lt _ _ _ hD]; exact c1
      have xh : (wr.alloc (Obj.cells (wcl x).toArray 95)).heap[wr.heap.size]? = some (.cells (wcl x).toArray 95 (0, 0)) := heap_alloc_last wr _
      have xa : (wr.alloc (Obj.cells (wcl x).toArray 95)).cell? ⟨wr.heap.size, 0, none⟩ = some (.int .i64 (x.1 : Int)) := by rw [cell_of_row _ _ _ _ _ _ xh]; simp [wcl]
      have xr : (wr.alloc (Obj.cells (wcl x).toArray 95)).rangeAt wr.heap.size 1 (valsOf x.2 64) := fun j v hv => by
        rw [cell_of_row _ _ _ _ _ _ xh, Nat.add_comm]
        simpa [wcl] using hv
      have xt := World.there_alloc hth (Obj.cells (wcl x).toArray 95)
      have XK : Hid (Keeps (fun b => b = D ∨ b = L) w (wr.alloc (Obj.cells (wcl x).toArray 95))) := HK1.out.alloc _
      have XD : Hid (DiskIn (wr.alloc (Obj.cells (wcl x).toArray 95)) D N L (.slice (some ⟨g, 0, none⟩) n cap) (s.spent.lastly (lay (fun _ => 64) s.lo s.lasts k))) := HD1.out.keeps (F := fun _ => False) ((Keeps.refl _ _).alloc _) (fun _ _ h => h)
      clear c1 hth HD1 HK1 HR xh
      generalize wr.alloc (Obj.cells (wcl x).toArray 95) = X at *
      have hHD : wr.heap.size ≠ D := by omega
      have hHL : wr.heap.size ≠ L := by omega
      generalize wr.heap.size = HH1 at *
      have hu := Try.underlying93
      have hz : (Try.prog.info? 93).map (·.size) = some (valsOf x.2 64).length := by rw [Try.size93, valsOf_length]
      have hz2 : (valsOf x.2 64).length = 64 := valsOf_length _ _
      have hz3 := valsOf_one x.2 64
      generalize hcs : valsOf x.2 64 = cs at *
      have HCS := hide hcs
      clear hcs
      go_region_held3 (fun w' => w'.cell? ⟨D, 1, none⟩ = some (.slice (some ⟨L, 0, none⟩) s.n s.n) ∧ w'.cell? ⟨HH1, 0, none⟩ = some (.int .i64 (x.1 : Int)) ∧ w'.rangeAt HH1 1 cs ∧ w'.there L (x.1 * 64) 64)
        (first
          | go_keep_ranges
          | (go_split_ands
             refine ⟨?_, ?_, ?_, ?_⟩
             · (first | assumption | (simp only [World.cell?_drew]; assumption) | (rw [World.cell?_setCells_out _ _ _ _ _ (fun e _ => absurd e hdl)]; assumption))
             · (first | assumption | (simp only [World.cell?_drew]; assumption) | (rw [World.cell?_setCells_out _ _ _ _ _ (fun e _ => absurd e hHL)]; assumption))
             · (first | assumption | (simp only [World.rangeAt_drew]; assumption) | exact World.rangeAt_setCells_apart (by assumption) _ _ _ (.inl hHL))
             · (first | assumption | (simp only [World.there_drew]; assumption) | exact World.there_setCells (by assumption) _ _ _)))
        (fail)
      have ZD : Hid (DiskIn (X.drew.setCells L (x.1 * 64) cs) D N L (.slice (some ⟨g, 0, none⟩) n cap) (s.spent.lastly (lay (fun _ => 64) s.lo s.lasts (k + 1)))) := by
        rw [← HCS.out, lay_succ _ _ _ k x HX.out]
        exact XD.out.drew.storeLasts x.1 hxa 64 (Nat.le_refl _) x.2
      have ZK : Hid (Keeps (fun b => b = D ∨ b = L) w (X.drew.setCells L (x.1 * 64) cs)) := XK.out.drew.setCells L _ _ (.inl (.inr rfl))
      clear x1 xa xr xt XK XD hu hz hz2 hz3
      generalize X.drew.setCells L (x.1 * 64) cs = Y at *
      go_wp2
      exact ⟨⟨k + 1, by omega, by go_num, ZD.out, ZK.out⟩, by simp [intOf]; omega⟩
    · have c2 := hd.c2
      have f2 := hd.fz 2
      have HD1 := hide hd
      have HK1 := hide hkp
      have hkn : k = n := by omega
      have HKN := hide hkn
      clear hd hkp hkn
      go_wp2
      go_ret
      refine ⟨rfl, ?_, HK1.out.setCell D 2 _ (.inl (.inl rfl))⟩
      have := HD1.out.turnLoose (Keeps.refl (fun _ => False) _) (fun _ _ h => h.elim) [] (v1 := .slice none 0 0) ⟨rfl, .inl ⟨rfl, rfl⟩⟩ (fun b e => by simp [Value.ownBlock] at e) (fun _ h => by simp at h) (by simp)
      rw [HKN.out, HN.out] at this
      exact this
theorem flush_in {w : World} {D N L : Nat} {v : Value} {s : St} (h : DiskIn w D N L v s) (hp : s.power = true) :
    Calls Try.prog 29 #[.pointer (some ⟨D, 0, none⟩)] w fun e w' =>
      e = .returned (.int .i64 0) ∧ DiskIn w' D N L (.slice none 0 0) s.spent.flush ∧ Keeps (fun b => b = D ∨ b = L) w w' := by
  obtain ⟨a, cap, rfl, _, hg⟩ := h.form
  exact flush_some h rfl hg hp
end Go.Proofs.Ytbecchoidglaeaa
