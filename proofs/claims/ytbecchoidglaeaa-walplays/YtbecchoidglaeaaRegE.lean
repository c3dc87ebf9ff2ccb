/- The program's region: read and entry. -/
import Derived.Test.YtbecchoidglaeaaRegL
namespace Go.Proofs.Ytbecchoidglaeaa
open Go.RowKit
set_option maxRecDepth 100000

/-- The bytes of the sectors from at_ on. -/
def runs (s : St) (at_ : Nat) : Nat → Nat := fun j => s.now (at_ + j / 64) (j % 64)
theorem runs_vals (s : St) (at_ k : Nat) : valsOf (runs s at_) (k * 64) ++ valsOf (s.now (at_ + k)) 64 = valsOf (runs s at_) ((k + 1) * 64) := by
  apply List.ext_getElem?
  intro j
  by_cases h : j < k * 64
  · rw [List.getElem?_append_left (by rw [valsOf_length]; exact h), valsOf_get _ _ _ h, valsOf_get _ _ _ (by omega)]
  · rw [List.getElem?_append_right (by rw [valsOf_length]; omega), valsOf_length]
    by_cases h2 : j < (k + 1) * 64
    · rw [valsOf_get _ _ _ (by omega), valsOf_get _ _ _ h2]
      unfold runs
      rw [show j / 64 = k from by omega, show j % 64 = j - k * 64 from by omega]
    · rw [List.getElem?_eq_none (by rw [valsOf_length]; omega), List.getElem?_eq_none (by rw [valsOf_length]; omega)]
/-- k sectors are read. -/
def ReadUp (w wq : World) (s : St) (at_ k : Nat) (v : Value) : Prop :=
  wq.ownsRow w.heap.size 5 1 v (k * 64) (valsOf (runs s at_) (k * 64)) ∧ Below w.heap.size w wq
theorem own_of_none {w : World} {base e size n : Nat} {v : Value} {xs : List Value} (h : w.ownsRow base e size v n xs) : (∃ a c, v = .slice a n c ∧ n ≤ c) := by
  rcases h.2 with ⟨rfl, rfl⟩ | ⟨g, cap, cur, rfl, _, _, hc, _⟩
  · exact ⟨none, 0, rfl, Nat.le_refl _⟩
  · exact ⟨_, cap, rfl, hc⟩
theorem own_base {w : World} {base e size n : Nat} {v : Value} {xs : List Value} (h : w.ownsRow base e size v n xs) : w.ownsRow 0 e size v n xs := by
  refine ⟨h.1, ?_⟩
  rcases h.2 with h1 | ⟨g, cap, cur, e, _, rest⟩
  · exact .inl h1
  · exact .inr ⟨g, cap, cur, e, Nat.zero_le _, rest⟩
theorem rw_owned {w : World} {g n c : Nat} {f : Nat → Nat} (h : w.ownsRow 0 5 1 (.slice (some ⟨g, 0, none⟩) n c) n (valsOf f n)) (hn : n ≤ 100000) : Rw w (some ⟨g, 0, none⟩) n f :=
  ⟨by unfold maxLen; omega, fun _ => ⟨g, 0, rfl, fun j hj => by rw [Nat.zero_add, h.cellAt j (by omega), valsOf_get _ _ _ hj]⟩⟩
/-- One sector more. -/
theorem run_more {w wq w2 : World} {s : St} {at_ k b : Nat} {v : Value} (h : ReadUp w wq s at_ k v) (hk : k ≤ 2000) (hb2 : Below wq.heap.size wq w2) (hr : Rw w2 (some ⟨b, 0, none⟩) 64 (s.now (at_ + k))) :
    ∃ v' w3, (Builtin.append_ #[37, 37] 37 #[v, .slice (some ⟨b, 0, none⟩) 64 64]).run Try.prog w2 = .ok v' w3 ∧ ReadUp w w3 s at_ (k + 1) v' := by
  obtain ⟨ho, hbel⟩ := h
  obtain ⟨i0, hi0, hz0, hz1, hz2⟩ := info_parts Try.infoU8
  have ho2 : w2.ownsRow w.heap.size 5 1 v (k * 64) (valsOf (runs s at_) (k * 64)) := own_keeps ho (Keeps.of_below hb2 (fun _ => False)) (fun _ _ h => h)
  obtain ⟨v', w3, hrun, ho3, hg, _, _⟩ := run_append_own_at (P := Try.prog) w2 w.heap.size 37 37 5 i0 _ 1 1 Try.underlying37 hi0 hz0 hz1 hz2 rfl (by omega) v (k * 64) _ ho2 ⟨b, 0, none⟩ 64 64 (valsOf (s.now (at_ + k)) 64) (by rw [valsOf_length])
    (fun j u hu => by
      have hj : j < 64 := by simpa [valsOf_length] using (List.getElem?_eq_some_iff.1 hu).1
      obtain ⟨b', off', e, hc⟩ := hr.2 (by omega)
      injection e with e
      injection e with e1 e2 _
      subst e1 e2
      rw [valsOf_get _ _ _ hj] at hu
      rw [Addr.add_mid, hc j hj, hu]) (valsOf_one _ 64) (by unfold maxLen; omega) (by omega) (by have := hbel.size; have := hb2.size; omega)
  rw [runs_vals, show k * 64 + 64 = (k + 1) * 64 from by omega] at ho3
  refine ⟨v', w3, hrun, ho3, ?_⟩
  have k3 : Keeps (fun x => v.ownBlock = some x) w2 w3 := (Keeps.refl _ _).grown hg (fun x e => .inl e)
  have hv : ∀ x, v.ownBlock = some x → w.heap.size ≤ x := fun x e => by
    rcases ho.2 with ⟨rfl, _⟩ | ⟨g, cap, cur, rfl, hg, _⟩
    · simp [Value.ownBlock] at e
    · simp [Value.ownBlock] at e; omega
  have h23 : Below w.heap.size w2 w3 := k3.below _ (by have := hbel.size; have := hb2.size; omega) hv
  exact (hbel.trans (below_le hb2 hbel.size)).trans h23
set_option maxRecDepth 100000 in
set_option maxHeartbeats 1600000 in
theorem read_any {w : World} {D : Nat} {s : St} {F : Nat → Prop} (h : Disk w D s F) (at_ m : Nat) (hs : s.n ≤ 1024) (hm : at_ + m ≤ s.n) :
    Calls Try.prog 74 #[.pointer (some ⟨D, 0, none⟩), .int .i64 (at_ : Int), .int .i64 ((at_ + m : Nat) : Int)] w fun e w' => ∃ v, e = .returned v ∧ ReadUp w w' s at_ m v := by
  have H := hide h
  clear h
  obtain ⟨E, hE⟩ : ∃ E : Nat, E = at_ + m := ⟨_, rfl⟩
  rw [← hE]
  have HE := hide hE
  have hE1 : (E : Int) ≤ 1024 := by omega
  clear hE
  go_enter Try.func74, Try.ntmps74
  go_wp2
  go_loopw [1, 7] (fun av vv wq => ∃ k x : Nat, Hid (k ≤ m ∧ x = at_ + k) ∧ av = .int .i64 (x : Int) ∧ Hid (ReadUp w wq s at_ k vv)) (fun av _ _ => E - (intOf av).toNat)
  case atStart => exact ⟨0, at_, ⟨by omega, by omega⟩, rfl, ⟨rfl, .inl ⟨rfl, rfl⟩⟩, Below.refl _ _⟩
  case round =>
    obtain ⟨k, x, HK, rfl, hp⟩ := hrel
    by_cases hlt : (x : Int) < (E : Int)
    · have hx : x < s.n := by have := HK.out; have := HE.out; omega
      go_wp2_with fail
      refine (disk_read (H.out.later hp.out.2) (x : Int) (by omega) (by omega)).mono ?_
      rintro e w2 ⟨b, rfl, hr, hle, hb2⟩
      obtain rfl : x = at_ + k := HK.out.2
      rw [Int.toNat_natCast] at hr
      obtain ⟨v', w3, hrun, hup⟩ := run_more hp.out (by have := HK.out; omega) hb2 hr
      have HR := hide hrun
      have HU := hide hup
      clear hr hb2 hrun hup
      go_wp2_with ((with_reducible refine wpl_append _ _ 37 _ (.slice (some ⟨b, 0, none⟩) 64 64) _ ?_ ?_ HR.out ?_); (· rfl); (· rfl))
      exact ⟨⟨k + 1, at_ + k + 1, ⟨by have := HK.out; have := HE.out; omega, by omega⟩, by go_num, HU⟩, by simp [intOf]; omega⟩
    · have hkm : k = m := by have := HK.out; have := HE.out; omega
      subst hkm
      go_wp2
      go_ret
      exact ⟨_, rfl, hp.out⟩
/-- All bytes are bytes. -/
def Byt (s : St) : Prop := ∀ i, i < s.n → ∀ j, j < 64 → s.now i j < 256
/-- The length that the sector at_ tells, as a head. -/
def lenAt (s : St) (at_ : Nat) : Nat := num fun i => s.now at_ (4 + i)
theorem lenAt_lt {s : St} (h : Byt s) {at_ : Nat} (ha : at_ < s.n) : lenAt s at_ < 4294967296 := num_lt _ fun i hi => h at_ ha (4 + i) (by omega)
/-- Is there an entry of gen at sector at_, up to e? -/
def isEnt (s : St) (at_ : Nat) (e : Int) (gen : Nat) : Bool :=
  fit s.n at_ e (lenAt s at_) && (allZ (fun j => runs s (at_ + 1) (lenAt s at_ + j)) ((lenAt s at_ + 63) / 64 * 64 - lenAt s at_) && eqB (s.now at_) (ent gen (runs s (at_ + 1)) (lenAt s at_) 0) 64)
theorem isEnt_false1 {s : St} {at_ : Nat} {e : Int} {gen : Nat} (h : fit s.n at_ e (lenAt s at_) = false) : isEnt s at_ e gen = false := by unfold isEnt; rw [h]; rfl
theorem isEnt_false2 {s : St} {at_ : Nat} {e : Int} {gen : Nat} (h : allZ (fun j => runs s (at_ + 1) (lenAt s at_ + j)) ((lenAt s at_ + 63) / 64 * 64 - lenAt s at_) = false) : isEnt s at_ e gen = false := by unfold isEnt; rw [h]; simp
theorem isEnt_eq {s : St} {at_ : Nat} {e : Int} {gen : Nat} (h1 : fit s.n at_ e (lenAt s at_) = true) (h2 : allZ (fun j => runs s (at_ + 1) (lenAt s at_ + j)) ((lenAt s at_ + 63) / 64 * 64 - lenAt s at_) = true) :
    isEnt s at_ e gen = eqB (s.now at_) (ent gen (runs s (at_ + 1)) (lenAt s at_) 0) 64 := by unfold isEnt; rw [h1, h2]; simp
theorem isEnt_lt {s : St} {at_ : Nat} {e : Int} {gen : Nat} (h : isEnt s at_ e gen = true) : at_ + cnt (lenAt s at_) ≤ s.n ∧ (at_ : Int) + (cnt (lenAt s at_) : Int) ≤ e := by
  unfold isEnt at h
  have h1 : fit s.n at_ e (lenAt s at_) = true := by
    cases hh : fit s.n at_ e (lenAt s at_) with
    | true => rfl
    | false => rw [hh] at h; cases h
  have := (fit_iff _ _ _ _).1 h1
  omega
set_option maxHeartbeats 400000 in
theorem disk_read_bad {w : World} {D : Nat} {s : St} {F : Nat → Prop} (h : Disk w D s F) (i : Int) (hi : ¬ (0 ≤ i ∧ i < s.n)) :
    Calls Try.prog 27 #[.pointer (some ⟨D, 0, none⟩), .int .i64 i] w fun e w' => e = .returned (.tuple #[.slice none 0 0, .int .i64 1]) ∧ w' = w := by
  obtain ⟨N, L, v, h, rfl⟩ := h
  have hh := has_in h i
  rw [decide_eq_false hi] at hh
  have HH := hide hh
  clear hh h hi
  go_enter Try.func27, Try.ntmps27
  go_wp2_with fail
  refine HH.out.mono ?_
  rintro e w1 ⟨rfl, rfl⟩
  go_wp2
  go_ret2
  exact ⟨rfl, rfl⟩
set_option maxHeartbeats 400000 in
theorem entry_bad {w : World} {D : Nat} {s : St} {F : Nat → Prop} (h : Disk w D s F) (i e g : Int) (hi : ¬ (0 ≤ i ∧ i < s.n)) :
    Calls Try.prog 65 #[.pointer (some ⟨D, 0, none⟩), .int .i64 i, .int .i64 e, .int .i64 g] w fun e w' => e = .returned (.tuple #[.slice none 0 0, .bool false]) ∧ w' = w := by
  have H := hide (disk_read_bad h i hi)
  clear h hi
  go_enter Try.func65, Try.ntmps65
  go_wp2_with fail
  refine H.out.mono ?_
  rintro e w1 ⟨rfl, rfl⟩
  go_wp2
  go_ret2
  exact ⟨rfl, rfl⟩
/-- What entry answers: the bytes of the entry, in memory that is new; or nothing. -/
def EntRes (w w' : World) (s : St) (at_ : Nat) (e : Int) (gen : Nat) (r : Ending) : Prop :=
  if isEnt s at_ e gen then ∃ a, r = .returned (.tuple #[.slice a (lenAt s at_) (lenAt s at_), .bool true]) ∧ Rw w' a (lenAt s at_) (runs s (at_ + 1)) ∧ ∀ x, a = some x → w.heap.size ≤ x.block
  else r = .returned (.tuple #[.slice none 0 0, .bool false])
theorem EntRes.no {w w' : World} {s : St} {at_ : Nat} {e : Int} {gen : Nat} (h : isEnt s at_ e gen = false) : EntRes w w' s at_ e gen (.returned (.tuple #[.slice none 0 0, .bool false])) := by unfold EntRes; rw [h]; simp
theorem EntRes.yes {w w' : World} {s : St} {at_ : Nat} {e : Int} {gen n : Nat} {a : Option Addr} (h : isEnt s at_ e gen = true) (hn : n = lenAt s at_) (hr : Rw w' a n (runs s (at_ + 1))) (hx : ∀ x, a = some x → w.heap.size ≤ x.block) :
    EntRes w w' s at_ e gen (.returned (.tuple #[.slice a n n, .bool true])) := by subst hn; unfold EntRes; rw [h]; exact ⟨a, rfl, hr, hx⟩
theorem Rw.part {w : World} {b n : Nat} {f : Nat → Nat} (h : Rw w (some ⟨b, 0, none⟩) n f) (k m : Nat) (hk : k + m ≤ n) : Rw w (some ⟨b, k, none⟩) m (fun i => f (k + i)) := by
  refine ⟨by have := h.1; omega, fun hp => ?_⟩
  obtain ⟨b', off', e, hc⟩ := h.2 (by omega)
  injection e with e
  injection e with e1 e2 _
  subst e1 e2
  refine ⟨b, k, rfl, fun i hi => ?_⟩
  have := hc (k + i) (by omega)
  rwa [Nat.zero_add] at this
theorem Rw.low0 {w : World} {b n : Nat} {f : Nat → Nat} (h : Rw w (some ⟨b, 0, none⟩) n f) (k : Nat) (hk : k ≤ n) : Rw w (some ⟨b, 0, none⟩) k f := by
  refine ⟨Nat.le_trans hk h.1, fun hp => ?_⟩
  obtain ⟨b', off', e, hc⟩ := h.2 (by omega)
  exact ⟨b', off', e, fun i hi => hc i (by omega)⟩
theorem below_drewN {B : Nat} {w wq : World} (h : Below B w wq) (k : Nat) : Below B w (wq.drewN k) := ⟨h.os, h.tape, h.output, h.size, h.block⟩
theorem below_drew1 {B : Nat} {w wq : World} (h : Below B w wq) : Below B w wq.drew := ⟨h.os, h.tape, h.output, h.size, h.block⟩
theorem Rw.cells {w : World} {b n : Nat} {f : Nat → Nat} (h : Rw w (some ⟨b, 0, none⟩) n f) : ∀ i, i < n → w.cell? ⟨b, 0 + i, none⟩ = some (.int .u8 (f i : Int)) := by
  intro i hi
  obtain ⟨b', off', e, hc⟩ := h.2 (by omega)
  injection e with e
  injection e with e1 e2 _
  subst e1 e2
  exact hc i hi
theorem equal_rw (b1 b2 : Nat) (f g : Nat → Nat) (w : World) (h1 : Rw w (some ⟨b1, 0, none⟩) 64 f) (h2 : Rw w (some ⟨b2, 0, none⟩) 64 g) (hf : ∀ i, i < 64 → f i < 256) (hg : ∀ i, i < 64 → g i < 256) :
    Calls Try.prog 71 #[.slice (some ⟨b1, 0, none⟩) 64 64, .slice (some ⟨b2, 0, none⟩) 64 64] w fun e w' => e = .returned (.bool (eqB f g 64)) ∧ w' = w :=
  equal_some b1 0 b2 0 64 64 64 f g w hf hg h1.cells h2.cells
theorem ent0_lt (gen : Nat) (f : Nat → Nat) (len : Nat) : ∀ i, i < 64 → ent gen f len 0 i < 256 := by
  intro i _
  show fill (head16 gen len (crc f len)) 16 i < 256
  unfold fill
  split
  · rename_i h; exact head16_lt _ _ _ i h
  · omega
theorem run_slice3 (w : World) (g M n c : Nat) (h : n ≤ c) : (Instr.sliceAt 37 (.slice (some ⟨g, 0, none⟩) M c) none (some (.int .i64 (n : Int))) (some (.int .i64 (n : Int)))).run Try.prog w = .ok (.slice (some ⟨g, 0, none⟩) n n) w := by
  have ht : Try.prog.underlying 37 = some (.slice 5) := Try.underlying37
  simp [Instr.sliceAt, Instr.slice, run_underlying ht, Instr.sliceBounds, run_sliceBound, h, Addr.add_lit]
section
variable {P : Program} {ops : Array Oper} {rest : List Oper} {a : Act} {w w' : World} {Q : Exit → Act → World → Prop} {dst : Option Tmp} {ty : TypeId} {pos : String} {after : Array Edge}
theorem wpl_slice3 (t : TypeId) (x y z : Operand) (p u v r : Value) (hx : a.eval x = p) (hy : a.eval y = u) (hz : a.eval z = v) (hr : (Instr.sliceAt t p none (some u) (some v)).run P w = .ok r w) (h : wpList P ops Q rest (a.put dst r) w) :
    wpList P ops Q ({ dst := dst, op := .slice t x none (some y) (some z), type := ty, pos := pos, after := after, guard := none } :: rest) a w :=
  wpList_plain rfl fun K hK => by
    unfold Oper.wp execOp
    simp only [Option.map_some, Option.map_none, hx, hy, hz, Sem.run_bind, hr, Result.andThen_ok, Sem.run_pure]
    exact hK _ _ h
end
set_option maxRecDepth 100000 in
set_option maxHeartbeats 3200000 in
theorem entry_in {w : World} {D : Nat} {s : St} {F : Nat → Prop} (h : Disk w D s F) (at_ gen : Nat) (e : Int) (hg : gen ≤ 2147483647) (hs : s.n ≤ 1024) (ha : at_ < s.n) (hby : Byt s) :
    Calls Try.prog 65 #[.pointer (some ⟨D, 0, none⟩), .int .i64 (at_ : Int), .int .i64 e, .int .i64 (gen : Int)] w fun r w' => EntRes w w' s at_ e gen r ∧ Below w.heap.size w w' := by
  have H := hide h
  have HBy := hide hby
  have hlt := lenAt_lt hby ha
  clear h hby
  go_enter Try.func65, Try.ntmps65
  go_wp2_with fail
  refine (disk_read H.out (at_ : Int) (by omega) (by omega)).mono ?_
  rintro r w1 ⟨b1, rfl, hr1, hle1, hb1⟩
  rw [Int.toNat_natCast] at hr1
  have HR1 := hide hr1
  have HB1 := hide hb1
  obtain ⟨b', off', eb, hc1⟩ := hr1.2 (by omega)
  injection eb with eb
  injection eb with e1 e2 _
  subst e1 e2
  have HC1 := hide hc1
  clear hr1 hb1 hc1
  go_wp2_with fail
  refine (lenIn_eq b1 0 64 64 (s.now at_) w1 (by omega) (fun i hi => HBy.out at_ ha i (by omega)) (fun i hi => HC1.out i (by omega))).mono ?_
  rintro r w2 ⟨rfl, k2, rfl⟩
  have hn : num (fun i => s.now at_ (4 + i)) = lenAt s at_ := rfl
  rw [hn]
  clear hn
  have HB2 := hide (below_drewN HB1.out k2)
  have HD2 := hide (H.out.later HB2.out)
  have HR2 : Hid (Rw (w1.drewN k2) (some ⟨b1, 0, none⟩) 64 (s.now at_)) := HR1.out
  clear HB1 HR1 HC1
  generalize hw2 : w1.drewN k2 = w2 at *
  clear hw2
  go_wp2_with fail
  refine (fits_any HD2.out at_ e (lenAt s at_) hs (by omega)).mono ?_
  cases hfit : fit s.n at_ e (lenAt s at_) with
  | false =>
    rintro r w3 ⟨rfl, rfl⟩
    have HF := hide hfit
    clear hfit
    go_wp2
    go_ret2
    exact ⟨EntRes.no (isEnt_false1 HF.out), HB2.out⟩
  | true =>
    rintro r w3 ⟨rfl, rfl⟩
    have hrm := (fit_iff _ _ _ _).1 hfit
    have HF := hide hfit
    have hcn : cnt (lenAt s at_) = 1 + (lenAt s at_ + 63) / 64 := rfl
    have hroom : at_ + 1 + (lenAt s at_ + 63) / 64 ≤ s.n := by omega
    generalize hnn : lenAt s at_ = n at *
    have HNN := hide hnn
    obtain ⟨m, hm⟩ : ∃ m, m = (n + 63) / 64 := ⟨_, rfl⟩
    have HM := hide hm
    have HRM : Hid (at_ + 1 + m ≤ s.n) := by show _ ≤ _; omega
    have hn6 : (n : Int) ≤ 65536 := by omega
    clear hfit hrm hcn hroom hnn hm
    go_wp2_with fail
    refine (size_any (n : Int) _ (by omega)).mono ?_
    rintro r w4 ⟨rfl, rfl⟩
    rw [Int.toNat_natCast]
    have hcm : (at_ : Int) + (cnt n : Int) = ((at_ + 1 + m : Nat) : Int) := by have := HM.out; unfold cnt; omega
    have hc4 : (cnt n : Int) ≤ 1024 := by have := HM.out; have := HRM.out; unfold cnt; omega
    have hat : (at_ : Int) ≤ 1024 := by omega
    have HCM := hide hcm
    clear hcm
    go_wp2_with fail
    rw [HCM.out]
    refine (read_any HD2.out (at_ + 1) m hs HRM.out).mono ?_
    rintro r w5 ⟨v, rfl, hup⟩
    have hB5 := HB2.out.trans (below_le hup.2 HB2.out.size)
    have HB5 := hide hB5
    have HB25 := hide hup.2
    have hle2 := HB2.out.size
    have HR5 := hide (HR2.out.below hup.2)
    have hmn : n ≤ m * 64 ∧ m * 64 < n + 64 := by have := HM.out; omega
    have HAZ : Hid (∀ q, allZ (fun j => runs s (at_ + 1) (n + j)) (m * 64 - n) = q → allZ (fun j => runs s (at_ + 1) (lenAt s at_ + j)) ((lenAt s at_ + 63) / 64 * 64 - lenAt s at_) = q) := fun q hq => by rw [HNN.out, ← HM.out]; exact hq
    have hMM : m * 64 = (n + 63) / 64 * 64 := by have := HM.out; omega
    obtain ⟨hown, hupb⟩ := hup
    clear hupb
    generalize hM : m * 64 = M at *
    have hM6 : M ≤ 100000 := by omega
    clear hM hMM hB5
    have HEQ : Hid (∀ q, allZ (fun j => runs s (at_ + 1) (n + j)) (M - n) = true → eqB (s.now at_) (ent gen (runs s (at_ + 1)) n 0) 64 = q → isEnt s at_ e gen = q) := fun q h1 h2 => by
      rw [isEnt_eq (by rw [HNN.out]; exact HF.out) (HAZ.out _ h1), HNN.out]; exact h2
    have HBR : Hid (∀ i, i < n → runs s (at_ + 1) i < 256) := fun i hi => HBy.out _ (by have := HRM.out; have := HM.out; omega) _ (by omega)
    rcases hown.2 with ⟨rfl, hz⟩ | ⟨g, c, cur, rfl, hgB, hx1, hmc, hx2⟩
    · obtain rfl : n = 0 := by omega
      subst hz
      have HZ : Hid (allZ (fun j => runs s (at_ + 1) (0 + j)) (0 - 0) = true) := rfl
      clear hown hmn
      go_wp2_with fail
      refine (isZero_empty none 0 w5).mono ?_
      rintro r w6 ⟨rfl, rfl⟩
      go_wp2_with fail
      refine (head_any gen hg none 0 0 (runs s (at_ + 1)) w6 (Rw.nil _ _ _) (fun i hi => absurd hi (by omega)) (by omega)).mono ?_
      rintro r w7 ⟨rfl, hsh, hb7⟩
      have HSH := hide (hsh.rw 64 (Nat.le_refl _))
      have HB7 := hide hb7
      clear hsh hb7
      go_wp2_with fail
      refine (equal_rw b1 w6.heap.size (s.now at_) (ent gen (runs s (at_ + 1)) 0 0) w7 (HR5.out.below HB7.out) HSH.out (fun i hi => HBy.out at_ ha i hi) (ent0_lt _ _ _)).mono ?_
      cases heq : eqB (s.now at_) (ent gen (runs s (at_ + 1)) 0 0) 64 with
      | false =>
        rintro r w8 ⟨rfl, rfl⟩
        have HE := hide (HEQ.out false HZ.out heq)
        clear heq
        go_wp2
        go_ret2
        exact ⟨EntRes.no HE.out, HB5.out.trans (below_le HB7.out HB5.out.size)⟩
      | true =>
        rintro r w8 ⟨rfl, rfl⟩
        have HE := hide (HEQ.out true HZ.out heq)
        clear heq
        go_wp2
        go_ret2
        refine ⟨EntRes.yes HE.out HNN.out.symm (Rw.nil _ _ _) (fun x hx => by cases hx), HB5.out.trans (below_le HB7.out HB5.out.size)⟩
    · have HRW := hide (rw_owned (own_base hown) hM6)
      have hnM : (n : Int) ≤ (M : Int) := by omega
      have hMc : (M : Int) ≤ (c : Int) := by omega
      clear hown hmn hx1 hx2 hmc
      by_cases hcn : c = n
      · obtain rfl : c = n := hcn
        obtain rfl : M = c := by omega
        have HZ : Hid (allZ (fun j => runs s (at_ + 1) (M + j)) (M - M) = true) := by show _ = _; rw [Nat.sub_self]; rfl
        go_wp2_with fail
        refine (isZero_empty (some ⟨g, 0, none⟩) 0 w5).mono ?_
        rintro r w6 ⟨rfl, rfl⟩
        go_wp2_with fail
        refine (head_any gen hg (some ⟨g, 0, none⟩) M M (runs s (at_ + 1)) w6 (HRW.out.low0 M (by omega)) HBR.out (by omega)).mono ?_
        rintro r w7 ⟨rfl, hsh, hb7⟩
        have HSH := hide (hsh.rw 64 (Nat.le_refl _))
        have HB7 := hide hb7
        clear hsh hb7
        go_wp2_with fail
        refine (equal_rw b1 w6.heap.size (s.now at_) (ent gen (runs s (at_ + 1)) M 0) w7 (HR5.out.below HB7.out) HSH.out (fun i hi => HBy.out at_ ha i hi) (ent0_lt _ _ _)).mono ?_
        cases heq : eqB (s.now at_) (ent gen (runs s (at_ + 1)) M 0) 64 with
        | false =>
          rintro r w8 ⟨rfl, rfl⟩
          have HE := hide (HEQ.out false HZ.out heq)
          clear heq
          go_wp2
          go_ret2
          exact ⟨EntRes.no HE.out, HB5.out.trans (below_le HB7.out HB5.out.size)⟩
        | true =>
          rintro r w8 ⟨rfl, rfl⟩
          have HE := hide (HEQ.out true HZ.out heq)
          clear heq
          go_wp2
          go_ret2
          refine ⟨EntRes.yes HE.out HNN.out.symm ((HRW.out.below HB7.out).low0 M (by omega)) (fun x hx => by injection hx with hx; subst hx; show _ ≤ g; omega), HB5.out.trans (below_le HB7.out HB5.out.size)⟩
      · go_wp2_with fail
        refine (isZero_any (some ⟨g, n, none⟩) (M - n) (c - n) (fun j => runs s (at_ + 1) (n + j)) w5 (HRW.out.part n (M - n) (by omega))).mono ?_
        cases hz : allZ (fun j => runs s (at_ + 1) (n + j)) (M - n) with
        | false =>
          rintro r w6 ⟨rfl, rfl⟩
          have HE := hide (isEnt_false2 (e := e) (gen := gen) (HAZ.out false hz))
          clear hz
          go_wp2
          go_ret2
          exact ⟨EntRes.no HE.out, HB5.out⟩
        | true =>
          have HZ := hide hz
          clear hz
          rintro r w6 ⟨rfl, rfl⟩
          go_wp2_with fail
          refine (head_any gen hg (some ⟨g, 0, none⟩) n c (runs s (at_ + 1)) w6 (HRW.out.low0 n (by omega)) HBR.out (by omega)).mono ?_
          rintro r w7 ⟨rfl, hsh, hb7⟩
          have HSH := hide (hsh.rw 64 (Nat.le_refl _))
          have HB7 := hide hb7
          clear hsh hb7
          go_wp2_with fail
          refine (equal_rw b1 w6.heap.size (s.now at_) (ent gen (runs s (at_ + 1)) n 0) w7 (HR5.out.below HB7.out) HSH.out (fun i hi => HBy.out at_ ha i hi) (ent0_lt _ _ _)).mono ?_
          cases heq : eqB (s.now at_) (ent gen (runs s (at_ + 1)) n 0) 64 with
          | false =>
            rintro r w8 ⟨rfl, rfl⟩
            have HE := hide (HEQ.out false HZ.out heq)
            clear heq
            go_wp2
            go_ret2
            exact ⟨EntRes.no HE.out, HB5.out.trans (below_le HB7.out HB5.out.size)⟩
          | true =>
            rintro r w8 ⟨rfl, rfl⟩
            have HE := hide (HEQ.out true HZ.out heq)
            clear heq
            go_wp2_with ((with_reducible refine wpl_slice3 37 _ _ _ (.slice (some ⟨g, 0, none⟩) M c) (.int .i64 (n : Int)) (.int .i64 (n : Int)) _ ?_ ?_ ?_ (run_slice3 _ g M n c (by omega)) ?_); (· rfl); (· rfl); (· rfl))
            go_ret2
            refine ⟨EntRes.yes HE.out HNN.out.symm ((HRW.out.below HB7.out).low0 n (by omega)) (fun x hx => by injection hx with hx; subst hx; show _ ≤ g; omega), HB5.out.trans (below_le HB7.out HB5.out.size)⟩
end Go.Proofs.Ytbecchoidglaeaa
