/- The program's places. -/
import Derived.Test.YtolpaimmmhoiiaaDdI
namespace Go.Proofs.Ytolpaimmmhoiiaa
open Go.RowKit
set_option maxRecDepth 100000

theorem run_make_places (n : Nat) (hn : n ≤ 100000) (w : World) : (Instr.makeSlice 45 (.int .i64 (n : Int)) (.int .i64 (n : Int))).run Try.prog w =
    .ok (.slice (some ⟨w.heap.size, 0, none⟩) n n) (w.alloc (.cells (icells (List.replicate n 0)).toArray 3)) := by
  obtain ⟨i0, hi0, hz0, hz1, hz2⟩ := info_parts Try.infoInt
  have := run_make (P := Try.prog) w 45 3 i0 _ Try.underlying45 hi0 hz0 .i64 .i64 (n : Int) (n : Int) (by omega) (Int.le_refl _) (by rw [hz2]; omega) (by omega)
  simp only [Int.toNat_natCast, hz1, Value.cells, Nat.mul_one] at this
  rw [this]
  congr 3
  apply Array.ext_getElem?
  intro k
  by_cases hk : k < n
  · simp [madeCells, icells, hk, Nat.mod_one]
  · simp [madeCells, icells, hk]
theorem own_places (w : World) (n : Nat) (l : List Int) (hl : l.length = n) (hn : n ≤ 100000) : (w.alloc (.cells (icells l).toArray 3)).ownsRow w.heap.size 3 1 (.slice (some ⟨w.heap.size, 0, none⟩) n n) n (icells l) :=
  ⟨by rw [icells_length]; omega, .inr ⟨w.heap.size, n, _, rfl, Nat.le_refl _, by unfold World.alloc; exact Array.getElem?_push_size, Nat.le_refl _, by unfold maxLen; omega, by simp [icells_length, hl], by rw [Nat.mul_one, ← hl, ← icells_length l, List.take_length]⟩⟩
theorem icells_put (l : List Int) (j : Nat) (z : Int) : icells (l.set j z) = (icells l).set j (.int .i64 z) := by simp [icells, List.map_set]
/-- The first k places, and 0 behind them. -/
def upK (n k : Nat) : List Int := (List.range n).map fun i => if i < k then (i : Int) else 0
theorem upK_length (n k : Nat) : (upK n k).length = n := by simp [upK]
theorem upK_zero (n : Nat) : upK n 0 = List.replicate n 0 := by
  apply List.ext_getElem?
  intro i
  by_cases hi : i < n <;> simp [upK, hi]
theorem upK_succ (n k : Nat) : upK n (k + 1) = (upK n k).set k (k : Int) := by
  apply List.ext_getElem?
  intro i
  rw [List.getElem?_set]
  by_cases hi : i < n
  · by_cases e : k = i
    · subst e
      simp [upK, hi]
    · rw [if_neg e]
      simp only [upK, List.getElem?_map, List.getElem?_range hi, Option.map_some]
      by_cases h1 : i < k
      · rw [if_pos h1, if_pos (by omega)]
      · rw [if_neg h1, if_neg (by omega)]
  · rw [List.getElem?_eq_none (by rw [upK_length]; omega), List.getElem?_eq_none (by rw [upK_length]; omega)]
    by_cases e : k = i
    · rw [if_pos e, if_neg (by rw [upK_length]; omega)]
    · rw [if_neg e]
theorem upK_get (n k j : Nat) (h : j < n) : (upK n k)[j]? = some (if j < k then (j : Int) else 0) := by
  simp [upK, h]
theorem upK_end (n : Nat) : upK n n = jsI (List.range n) := by
  apply List.ext_getElem?
  intro i
  by_cases hi : i < n <;> simp [upK, jsI, hi]
set_option maxHeartbeats 1600000 in
theorem places_any (num : Int) (ai : Option Addr) (ni ci : Nat) (al : Option Addr) (m cl : Nat) (w : World) (hm : m ≤ 3000) :
    Calls Try.prog 16 #[.agg #[.int .i64 num, .slice ai ni ci, .slice al m cl]] w fun e w' => (∃ a c, e = .returned (.slice a (List.range m).length c) ∧ IRd w' a (jsI (List.range m))) ∧ Below w.heap.size w w' := by
  have hmk := fun w => run_make_places m (by omega) w
  have HU : Hid (upK m m = jsI (List.range m)) := upK_end m
  have HOF : Hid (∀ W : World, (W.alloc (.cells (icells (List.replicate m 0)).toArray 3)).ownsRow W.heap.size 3 1 (.slice (some ⟨W.heap.size, 0, none⟩) m m) m (icells (upK m 0))) := fun W => by
    rw [upK_zero]; exact own_places W m _ (by simp) (by omega)
  rw [List.length_range]
  generalize jsI (List.range m) = st at *
  go_enter Try.func16, Try.ntmps16
  go_wp2_with fail
  have HB0 : Hid (Below w.heap.size w (w.alloc (.cells #[.int .i64 num, .slice ai ni ci, .slice al m cl] 53))) := (Below.refl _ _).alloc (Nat.le_refl _) _
  have HO0 := hide (HOF.out (w.alloc (.cells #[.int .i64 num, .slice ai ni ci, .slice al m cl] 53)))
  have HB1 : Hid (Below w.heap.size w ((w.alloc (.cells #[.int .i64 num, .slice ai ni ci, .slice al m cl] 53)).alloc (.cells (icells (List.replicate m 0)).toArray 3))) := HB0.out.alloc HB0.out.size _
  rw [World.size_alloc] at HO0
  clear HOF
  generalize (w.alloc (.cells #[.int .i64 num, .slice ai ni ci, .slice al m cl] 53)).alloc (.cells (icells (List.replicate m 0)).toArray 3) = w0 at *
  clear hmk HB0
  go_loopw [11] (fun i wq => ∃ k : Nat, k ≤ m ∧ i = .int .i64 k ∧ Hid (wq.ownsRow (w.heap.size + 1) 3 1 (.slice (some ⟨w.heap.size + 1, 0, none⟩) m m) m (icells (upK m k))) ∧ Hid (Below w.heap.size w wq)) (fun i _ => m - (intOf i).toNat)
  case atStart => exact ⟨0, Nat.zero_le _, rfl, HO0, HB1⟩
  case round =>
    obtain ⟨k, hk, rfl, HO, HB⟩ := hrel
    clear HO0
    have hk0 : (0 : Int) ≤ (k : Int) := Int.natCast_nonneg _
    by_cases hlt : k < m
    · have hcj : wr.cell? ⟨w.heap.size + 1, k, none⟩ = some (.int .i64 (if k < k then (k : Int) else 0)) := by
        rw [HO.out.cellAt k (by rw [Nat.mul_one]; exact hlt)]
        exact icells_get _ k _ (upK_get m k k hlt)
      have hzj : wr.frozen? ⟨w.heap.size + 1, k, none⟩ = false := HO.out.frozenAt k
      have hst := HO.out.stored k (.int .i64 (k : Int))
      have HO2 : Hid ((wr.setCell ⟨w.heap.size + 1, k, none⟩ (.int .i64 (k : Int))).ownsRow (w.heap.size + 1) 3 1 (.slice (some ⟨w.heap.size + 1, 0, none⟩) m m) m (icells (upK m (k + 1)))) := by
        show World.ownsRow _ _ _ _ _ _ _
        rw [upK_succ, icells_put]; exact hst.1
      have HB2 : Hid (Below w.heap.size w (wr.setCell ⟨w.heap.size + 1, k, none⟩ (.int .i64 (k : Int)))) := HB.out.setCell (by simp only; omega) _
      have hkm : (k : Int) < (m : Int) := by omega
      have hz1 : w.heap.size + 1 < wr.heap.size := by have := World.block_lt_of_cell? wr _ hcj; simpa using this
      clear hst HO HB
      go_wp2
      exact ⟨⟨k + 1, by omega, by go_num, HO2, HB2⟩, by simp [intOf]; omega⟩
    · have hkm : k = m := by omega
      subst hkm
      rw [HU.out] at HO
      have HLN : Hid (k = st.length) := by
        show _ = _
        rw [← HU.out, upK_length]
      have hrd : ∃ a c, Value.slice (some ⟨w.heap.size + 1, 0, none⟩) k k = .slice a st.length c ∧ IRd wr a st := by
        have h := HO.out
        obtain ⟨a, c, e, hr⟩ := own_ird (zs := st) (by rw [← HLN.out]; exact h)
        exact ⟨a, c, e, hr⟩
      obtain ⟨a, c, e, hr⟩ := hrd
      have HRD : Hid (IRd wr (some ⟨w.heap.size + 1, 0, none⟩) st) := by
        injection e with e1 e2 e3
        rw [e1]
        exact hr
      clear e hr HO
      go_wp2
      go_ret
      exact ⟨⟨_, _, rfl, HRD.out⟩, HB.out⟩
end Go.Proofs.Ytolpaimmmhoiiaa
/- The program's nine questions (written by tools/gen_ddk.py). -/
namespace Go.Proofs.Ytolpaimmmhoiiaa
open Go.RowKit
set_option maxRecDepth 100000

/-- What all that is asked needs of the routes and of what is told of peers. -/
structure FitQ (infos : List Inf) (all : List Rt) : Prop where
  len : infos.length ≤ 100000
  ids : ∀ x ∈ infos, x.id < 4294967296
  path : ∀ (j : Nat) (r : Rt), all[j]? = some r → r.att.path.length + sumP r.att.path ≤ 100000
  pref : ∀ (j : Nat) (r : Rt), all[j]? = some r → inF r.att.pref
  med : ∀ (j : Nat) (r : Rt), all[j]? = some r → inF r.att.med
  orig : ∀ (j : Nat) (r : Rt), all[j]? = some r → inF r.att.origin
  peer : ∀ (j : Nat) (r : Rt), all[j]? = some r → inF r.peer
structure QEnv (w : World) (ai : Option Addr) (infos : List Inf) (al : Option Addr) (all : List Rt) : Prop where
  fit : FitQ infos all
  rts : RtsRd w al all
  infs : InfsRd w ai infos
theorem QEnv.below {w w' : World} {ai : Option Addr} {infos : List Inf} {al : Option Addr} {all : List Rt} (h : QEnv w ai infos al all) (hb : Below w.heap.size w w') : QEnv w' ai infos al all := ⟨h.fit, h.rts.below hb, h.infs.below hb⟩
def yOf (all : List Rt) (p : Rt → Bool) (j : Nat) : Bool := match all[j]? with
  | some r => p r
  | none => false
theorem yOf_at {all : List Rt} {p : Rt → Bool} {j : Nat} {r : Rt} (h : all[j]? = some r) : yOf all p j = p r := by
  unfold yOf
  rw [h]
def fOf (all : List Rt) (p : Rt → Int) (j : Nat) : Int := match all[j]? with
  | some r => p r
  | none => 0
theorem fOf_at {all : List Rt} {p : Rt → Int} {j : Nat} {r : Rt} (h : all[j]? = some r) : fOf all p j = p r := by
  unfold fOf
  rw [h]
theorem run_loadC {w : World} {X : Nat} {num : Int} {ai : Option Addr} {ni ci : Nat} {al : Option Addr} {nl cl : Nat} (x0 : w.cell? ⟨X, 0, none⟩ = some (.int .i64 num)) (x1 : w.cell? ⟨X, 1, none⟩ = some (.slice ai ni ci)) (x2 : w.cell? ⟨X, 2, none⟩ = some (.slice al nl cl)) :
    (Instr.loadAt 53 (.pointer (some ⟨X, 0, none⟩))).run Try.prog w = .ok (.agg #[.int .i64 num, .slice ai ni ci, .slice al nl cl]) w := by
  have zX := World.block_lt_of_cell? w _ x0
  simp only at zX
  go_simp
section
variable {ρ : Operand → Value} {dst : Option Nat} {ty : Nat} {pos : String} {after : Array Edge} {gd : Option (Nat × Bool)}
theorem exec_loadC {w : World} {X : Nat} {x : Operand} {num : Int} {ai : Option Addr} {ni ci : Nat} {al : Option Addr} {nl cl : Nat} (hx : ρ x = .pointer (some ⟨X, 0, none⟩)) (h : w.cell? ⟨X, 0, none⟩ = some (.int .i64 num) ∧ w.cell? ⟨X, 1, none⟩ = some (.slice ai ni ci) ∧ w.cell? ⟨X, 2, none⟩ = some (.slice al nl cl)) :
    (execOp ρ { dst := dst, op := .load 53 x, type := ty, pos := pos, after := after, guard := gd }).run Try.prog w = .ok (.value (.agg #[.int .i64 num, .slice ai ni ci, .slice al nl cl])) w := by
  have hr := run_loadC h.1 h.2.1 h.2.2
  unfold execOp
  simp only [hx, Sem.run_bind, hr, Result.andThen_ok, Sem.run_pure]
end
/-- What the walk gets of a question that was made. -/
def Made (W : World) (N : Nat) (st : List Nat → List Nat) (e : Ending) (w' : World) : Prop := (∃ v, e = .returned v ∧ AsksJ w' v N st) ∧ Below W.heap.size W w'
set_option maxHeartbeats 800000 in
theorem quest_0 (num : Int) (ai : Option Addr) (ci : Nat) (infos : List Inf) (al : Option Addr) (cl : Nat) (all : List Rt) (w : World) (V : QEnv w ai infos al all) :
    Calls Try.prog 21 #[.agg #[.int .i64 num, .slice ai infos.length ci, .slice al all.length cl], .func (.func 22) #[] #[]] w (Made w all.length (stepB 0 num infos all)) := by
  refine (rather_any num ai infos.length ci al cl all 22 #[] #[] (yOf all fun r => decide (r.peer < 0)) w V.rts (fun j r hr => ⟨_, _, _, rfl, Try.call22, fun w1 pa pc ca cc ra rc hb ha => ?_⟩)).mono ?_
  · rw [yOf_at hr]
    exact qstat_any pa pc ca cc ra rc r w1
  · rintro e w' ⟨⟨v, he, hv⟩, hb⟩
    refine ⟨⟨v, he, hv.eq fun js hq => ?_⟩, hb⟩
    exact step_rather 0 num infos all js hq _ fun j r hr => by rw [yOf_at hr]; show (if r.peer < 0 then (0 : Int) else 1) = _; by_cases h : r.peer < 0 <;> simp [h]
set_option maxHeartbeats 800000 in
theorem quest_1 (num : Int) (ai : Option Addr) (ci : Nat) (infos : List Inf) (al : Option Addr) (cl : Nat) (all : List Rt) (w : World) (V : QEnv w ai infos al all) :
    Calls Try.prog 21 #[.agg #[.int .i64 num, .slice ai infos.length ci, .slice al all.length cl], .func (.func 23) #[] #[]] w (Made w all.length (stepB 1 num infos all)) := by
  refine (rather_any num ai infos.length ci al cl all 23 #[] #[] (yOf all fun r => r.stale != 2) w V.rts (fun j r hr => ⟨_, _, _, rfl, Try.call23, fun w1 pa pc ca cc ra rc hb ha => ?_⟩)).mono ?_
  · rw [yOf_at hr]
    exact qnotll_any pa pc ca cc ra rc r w1
  · rintro e w' ⟨⟨v, he, hv⟩, hb⟩
    refine ⟨⟨v, he, hv.eq fun js hq => ?_⟩, hb⟩
    exact step_rather 1 num infos all js hq _ fun j r hr => by rw [yOf_at hr]; show (if r.stale = 2 then (1 : Int) else 0) = _; by_cases h : r.stale = 2 <;> simp [h]
set_option maxHeartbeats 800000 in
theorem quest_2 (num : Int) (ai : Option Addr) (ci : Nat) (infos : List Inf) (al : Option Addr) (cl : Nat) (all : List Rt) (w : World) (V : QEnv w ai infos al all) :
    Calls Try.prog 24 #[.agg #[.int .i64 num, .slice ai infos.length ci, .slice al all.length cl], .func (.func 25) #[] #[]] w (Made w all.length (stepB 2 num infos all)) := by
  refine (great_any num ai infos.length ci al cl all 25 #[] #[] (fOf all fun r => prefA r.att) w V.rts (fun j r hr => ⟨_, _, _, rfl, Try.call25, fun w1 pa pc ca cc ra rc hb ha => ?_⟩)).mono ?_
  · rw [fOf_at hr]
    exact qpref_any pa pc ca cc ra rc r w1 (V.fit.pref j r hr)
  · rintro e w' ⟨⟨v, he, hv⟩, hb⟩
    refine ⟨⟨v, he, hv.eq fun js hq => ?_⟩, hb⟩
    exact step_least 2 num infos all js hq _ fun j r hr => by show - prefA r.att = - fOf all _ j; rw [fOf_at hr]
set_option maxHeartbeats 800000 in
theorem quest_3 (num : Int) (ai : Option Addr) (ci : Nat) (infos : List Inf) (al : Option Addr) (cl : Nat) (all : List Rt) (w : World) (V : QEnv w ai infos al all) :
    Calls Try.prog 26 #[.agg #[.int .i64 num, .slice ai infos.length ci, .slice al all.length cl], .func (.func 27) #[] #[]] w (Made w all.length (stepB 3 num infos all)) := by
  refine (least_any num ai infos.length ci al cl all 27 #[] #[] (fOf all fun r => (lenP r.att.path : Int)) w V.rts (fun j r hr => ⟨_, _, _, rfl, Try.call27, fun w1 pa pc ca cc ra rc hb ha => ?_⟩)).mono ?_
  · rw [fOf_at hr]
    exact qlen_any pa pc ca cc ra rc r w1 (V.fit.path j r hr) ha.path
  · rintro e w' ⟨⟨v, he, hv⟩, hb⟩
    refine ⟨⟨v, he, hv.eq fun js hq => ?_⟩, hb⟩
    exact step_least 3 num infos all js hq _ fun j r hr => by rw [fOf_at hr]; rfl
set_option maxHeartbeats 800000 in
theorem quest_4 (num : Int) (ai : Option Addr) (ci : Nat) (infos : List Inf) (al : Option Addr) (cl : Nat) (all : List Rt) (w : World) (V : QEnv w ai infos al all) :
    Calls Try.prog 26 #[.agg #[.int .i64 num, .slice ai infos.length ci, .slice al all.length cl], .func (.func 28) #[] #[]] w (Made w all.length (stepB 4 num infos all)) := by
  refine (least_any num ai infos.length ci al cl all 28 #[] #[] (fOf all fun r => r.att.origin) w V.rts (fun j r hr => ⟨_, _, _, rfl, Try.call28, fun w1 pa pc ca cc ra rc hb ha => ?_⟩)).mono ?_
  · rw [fOf_at hr]
    exact qorig_any pa pc ca cc ra rc r w1 (V.fit.orig j r hr)
  · rintro e w' ⟨⟨v, he, hv⟩, hb⟩
    refine ⟨⟨v, he, hv.eq fun js hq => ?_⟩, hb⟩
    exact step_least 4 num infos all js hq _ fun j r hr => by rw [fOf_at hr]; rfl
set_option maxHeartbeats 800000 in
theorem quest_6 (num : Int) (ai : Option Addr) (ci : Nat) (infos : List Inf) (al : Option Addr) (cl : Nat) (all : List Rt) (w : World) (V : QEnv w ai infos al all) :
    Calls Try.prog 21 #[.agg #[.int .i64 num, .slice ai infos.length ci, .slice al all.length cl], .func (.func 30) #[.agg #[.int .i64 num, .slice ai infos.length ci, .slice al all.length cl]] #[]] w (Made w all.length (stepB 6 num infos all)) := by
  refine (rather_any num ai infos.length ci al cl all 30 #[.agg #[.int .i64 num, .slice ai infos.length ci, .slice al all.length cl]] #[] (yOf all fun r => (infoL infos r.peer).num != num) w V.rts (fun j r hr => ⟨_, _, _, rfl, Try.call30, fun w1 pa pc ca cc ra rc hb ha => ?_⟩)).mono ?_
  · rw [yOf_at hr]
    exact outs_any num ai ci infos al all.length cl pa pc ca cc ra rc r w1 V.fit.len (V.infs.below hb)
  · rintro e w' ⟨⟨v, he, hv⟩, hb⟩
    refine ⟨⟨v, he, hv.eq fun js hq => ?_⟩, hb⟩
    exact step_rather 6 num infos all js hq _ fun j r hr => by rw [yOf_at hr]; show (if (infoL infos r.peer).num = num then (1 : Int) else 0) = _; by_cases h : (infoL infos r.peer).num = num <;> simp [h]
set_option maxHeartbeats 800000 in
theorem quest_7 (num : Int) (ai : Option Addr) (ci : Nat) (infos : List Inf) (al : Option Addr) (cl : Nat) (all : List Rt) (w : World) (V : QEnv w ai infos al all) :
    Calls Try.prog 26 #[.agg #[.int .i64 num, .slice ai infos.length ci, .slice al all.length cl], .func (.func 31) #[.agg #[.int .i64 num, .slice ai infos.length ci, .slice al all.length cl]] #[]] w (Made w all.length (stepB 7 num infos all)) := by
  refine (least_any num ai infos.length ci al cl all 31 #[.agg #[.int .i64 num, .slice ai infos.length ci, .slice al all.length cl]] #[] (fOf all fun r => ((infoL infos r.peer).id : Int)) w V.rts (fun j r hr => ⟨_, _, _, rfl, Try.call31, fun w1 pa pc ca cc ra rc hb ha => ?_⟩)).mono ?_
  · rw [fOf_at hr]
    exact idq_any num ai ci infos al all.length cl pa pc ca cc ra rc r w1 V.fit.len (V.infs.below hb) V.fit.ids
  · rintro e w' ⟨⟨v, he, hv⟩, hb⟩
    refine ⟨⟨v, he, hv.eq fun js hq => ?_⟩, hb⟩
    exact step_least 7 num infos all js hq _ fun j r hr => by rw [fOf_at hr]; rfl
set_option maxHeartbeats 800000 in
theorem quest_8 (num : Int) (ai : Option Addr) (ci : Nat) (infos : List Inf) (al : Option Addr) (cl : Nat) (all : List Rt) (w : World) (V : QEnv w ai infos al all) :
    Calls Try.prog 26 #[.agg #[.int .i64 num, .slice ai infos.length ci, .slice al all.length cl], .func (.func 32) #[] #[]] w (Made w all.length (stepB 8 num infos all)) := by
  refine (least_any num ai infos.length ci al cl all 32 #[] #[] (fOf all fun r => r.peer) w V.rts (fun j r hr => ⟨_, _, _, rfl, Try.call32, fun w1 pa pc ca cc ra rc hb ha => ?_⟩)).mono ?_
  · rw [fOf_at hr]
    exact qpeer_any pa pc ca cc ra rc r w1 (V.fit.peer j r hr)
  · rintro e w' ⟨⟨v, he, hv⟩, hb⟩
    refine ⟨⟨v, he, hv.eq fun js hq => ?_⟩, hb⟩
    exact step_least 8 num infos all js hq _ fun j r hr => by rw [fOf_at hr]; rfl
theorem quest_5 (num : Int) (ai : Option Addr) (ci : Nat) (infos : List Inf) (al : Option Addr) (cl : Nat) (all : List Rt) (w : World) (V : QEnv w ai infos al all) : AsksJ w (.func (.func 29) #[.agg #[.int .i64 num, .slice ai infos.length ci, .slice al all.length cl]] #[]) all.length (stepB 5 num infos all) := by
  refine ⟨_, _, _, rfl, Try.call29, fun w1 ae ce js h9 hr hq hl => ?_⟩
  have h := meds_any num ai infos.length ci al cl all ae ce js w1 hl hq V.fit.med (V.rts.below h9) hr
  rw [step5_is num infos all js hq] at h
  exact h
end Go.Proofs.Ytolpaimmmhoiiaa
