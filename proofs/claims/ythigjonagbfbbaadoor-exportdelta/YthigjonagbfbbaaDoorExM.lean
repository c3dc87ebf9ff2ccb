/- What is told: toOurs, toOthers. -/
import Derived.Test.YthigjonagbfbbaaDoorKAt
import Derived.Test.YthigjonagbfbbaaDoorKAv
namespace Go.Proofs.YthigjonagbfbbaaDoor
open Go.RowKit
set_option maxRecDepth 100000

/-- What one of ours is told. -/
def ourA (a : At) : At := { a with pref := if a.pref = -1 then 100 else a.pref }
/-- What others are told. -/
def othA (c : Cfg) (a : At) : At := { a with path := prepP c.asn a.path, next := c.next, med := -1, pref := -1 }
/-- Attributes out of a route's box. -/
theorem Bk.att {w : World} {X : Nat} {pa : Option Addr} {pc : Nat} {ca : Option Addr} {cc : Nat} {ra : Option Addr} {rc : Nat} {r : Rt} (h : Bk 36 w X (rtC pa pc ca cc ra rc r)) : (Instr.loadAt 34 (.pointer (some ⟨X, 3, none⟩))).run Tryd.prog w = .ok (.agg (atC pa pc ca cc ra rc r.att)) w := run_loadA h
section
attribute [local go_sem ↓] keptC_load keptC_box keptP_load keptP_box keptR_box keptR_load keptA_load keptA_store keptA_alloc
set_option maxHeartbeats 1600000 in
theorem toOurs_any (pa : Option Addr) (pc : Nat) (ca : Option Addr) (cc : Nat) (ra : Option Addr) (rc : Nat) (r : Rt) (w : World) (hl : sizeA r.att ≤ 100000) (h : AtRd w pa ca ra r.att) :
    Calls Tryd.prog 26 #[.agg (rtC pa pc ca cc ra rc r)] w fun e w' => ∃ pa' pc' ca' cc' ra' rc', e = .returned (.agg (atC pa' pc' ca' cc' ra' rc' (ourA r.att))) ∧ OwnAt w' w.heap.size pa' pc' ca' cc' ra' rc' r.att ∧ Below w.heap.size w w' := by
  have HR := hide h
  have HL := hide hl
  clear h hl
  obtain ⟨C, hC⟩ : ∃ C, C = rtC pa pc ca cc ra rc r := ⟨_, rfl⟩
  rw [← hC]
  have HC := hide hC
  clear hC
  go_enter Tryd.func26, Tryd.ntmps26
  go_wp2_with fail
  refine kept_box_intro _ _ _ (by rfl) (run_boxS _ C w) ?_
  go_wp2_with fail
  refine kept_alloc_intro _ (run_allocA _) ?_
  obtain ⟨W0, hW0⟩ : ∃ W0, W0 = (w.alloc (.cells C 36)).alloc (.cells zA 34) := ⟨_, rfl⟩
  have HB0 : Hid (Below w.heap.size w W0) := by show Below _ _ _; rw [hW0]; exact ((Below.refl _ _).alloc (Nat.le_refl _) _).alloc (by simp) _
  have HX0 : Hid (Bk 36 W0 w.heap.size (rtC pa pc ca cc ra rc r)) := by show Bk _ _ _ _; rw [hW0, HC.out]; exact (Bk.new _ _ _).alloc _
  have HY0 : Hid (Ab W0 (w.heap.size + 1) zA) := by show Ab _ _ _; rw [hW0]; have := Ab.new (w.alloc (.cells C 36)) zA; simpa using this
  have hs0 : W0.heap.size = w.heap.size + 2 := by rw [hW0]; simp
  rw [← hW0]
  simp only [World.size_alloc]
  clear hW0
  go_wp2_with fail
  refine kept_load_intro _ _ _ (by rfl) HX0.out.att ?_
  go_wp2_with fail
  refine (ownA_any pa pc ca cc ra rc r.att W0 HL.out (HR.out.below HB0.out)).mono ?_
  rintro e w1 ⟨pa9, pc9, ca9, cc9, ra9, rc9, rfl, ho1, hb1⟩
  have HO1 := hide ho1
  have HB1 : Hid (Below w.heap.size w w1) := HB0.out.trans (hb1.mono (by omega))
  have HY1 := hide (HY0.out.below hb1)
  have hs1 : w.heap.size + 2 ≤ w1.heap.size := by have := hb1.size; omega
  rw [hs0] at HO1
  clear hb1 ho1 HB0 HX0 HY0 hs0
  go_wp2_with fail
  refine kept_alloc_intro _ (run_allocA _) ?_
  go_wp2_with fail
  refine kept_store_intro _ _ _ (.agg (atC pa9 pc9 ca9 cc9 ra9 rc9 r.att)) (by rfl) (by rfl) (run_storeAb (Ab.new w1 zA) rfl (AC.of _ _ _ _ _ _ _)) ?_
  have hb2 : Below w1.heap.size w1 ((w1.alloc (.cells zA 34)).setCells w1.heap.size 0 (atC pa9 pc9 ca9 cc9 ra9 rc9 r.att).toList) := below_puts ((Below.refl _ _).alloc (Nat.le_refl _) _) (Nat.le_refl _) _
  have HX2 : Hid (Ab ((w1.alloc (.cells zA 34)).setCells w1.heap.size 0 (atC pa9 pc9 ca9 cc9 ra9 rc9 r.att).toList) w1.heap.size (atC pa9 pc9 ca9 cc9 ra9 rc9 r.att)) := (Ab.new w1 zA).put rfl
  have H12 := hide hb2
  have HB2 : Hid (Below w.heap.size w ((w1.alloc (.cells zA 34)).setCells w1.heap.size 0 (atC pa9 pc9 ca9 cc9 ra9 rc9 r.att).toList)) := HB1.out.trans (hb2.mono (by omega))
  have HY2 := hide (HY1.out.below hb2)
  clear hb2 HB1 HY1
  generalize (w1.alloc (.cells zA 34)).setCells w1.heap.size 0 (atC pa9 pc9 ca9 cc9 ra9 rc9 r.att).toList = w2 at *
  generalize hXE : w1.heap.size = X at *
  have HXE := hide hXE
  clear hXE
  have x4 : w2.cell? ⟨X, 4, none⟩ = some (.int .i64 r.att.pref) := HX2.out.cell 4 rfl
  have f4 := HX2.out.frozen 4
  by_cases hp : r.att.pref = -1
  · have HTA : Hid (ourA r.att = { r.att with pref := 100 }) := by show _ = _; unfold ourA; rw [if_pos hp]
    have q1 : (r.att.pref == -1) = true := by simpa using hp
    clear hp
    go_wp2_with fail
    have HX3 : Hid (Ab (w2.setCell ⟨X, 4, none⟩ (.int .i64 100)) X (atC pa9 pc9 ca9 cc9 ra9 rc9 { r.att with pref := 100 })) := HX2.out.set 4 (.int .i64 100)
    have HY3 := hide (HY2.out.other 4 (.int .i64 100) (Y := X) (by omega))
    have HO3 := hide (HO1.out.later (w' := w2.setCell ⟨X, 4, none⟩ (.int .i64 100)) (by rw [HXE.out]; exact H12.out.setCell (Nat.le_refl _) _))
    have HB3 : Hid (Below w.heap.size w (w2.setCell ⟨X, 4, none⟩ (.int .i64 100))) := HB2.out.setCell (by show _ ≤ X; omega) _
    clear x4 f4 HX2 HY2 HB2 H12 HO1
    generalize w2.setCell ⟨X, 4, none⟩ (.int .i64 100) = w3 at *
    refine kept_load_intro _ _ _ (by rfl) (run_loadAb HX3.out (AC.of _ _ _ _ _ _ _)) ?_
    go_wp2_with fail
    refine kept_store_intro _ _ _ _ (by rfl) (by rfl) (run_storeAb HY3.out rfl (AC.of _ _ _ _ _ _ _)) ?_
    have HY4 : Hid (Ab (w3.setCells (w.heap.size + 1) 0 (atC pa9 pc9 ca9 cc9 ra9 rc9 { r.att with pref := 100 }).toList) (w.heap.size + 1) (atC pa9 pc9 ca9 cc9 ra9 rc9 { r.att with pref := 100 })) := HY3.out.put rfl
    have HO4 := hide ((HO3.out.keeps ((Keeps.refl (fun k => k = w.heap.size + 1) w3).setCells (w.heap.size + 1) 0 (atC pa9 pc9 ca9 cc9 ra9 rc9 { r.att with pref := 100 }).toList (.inl rfl)) (fun b h1 h2 => by omega)).base (B' := w.heap.size) (by omega))
    have HB4 := hide (below_puts HB3.out (X := w.heap.size + 1) (by omega) (atC pa9 pc9 ca9 cc9 ra9 rc9 { r.att with pref := 100 }).toList)
    generalize w3.setCells (w.heap.size + 1) 0 (atC pa9 pc9 ca9 cc9 ra9 rc9 { r.att with pref := 100 }).toList = w4 at *
    go_wp2_with fail
    refine bodyPost_ret (v := .agg (atC pa9 pc9 ca9 cc9 ra9 rc9 { r.att with pref := 100 })) (resA_one Tryd.results26 _ w4 (w.heap.size + 1) _ rfl HY4.out (AC.of _ _ _ _ _ _ _)) rfl ⟨pa9, pc9, ca9, cc9, ra9, rc9, by rw [HTA.out], HO4.out, HB4.out⟩
  · have HTA : Hid (ourA r.att = r.att) := by show _ = _; unfold ourA; rw [if_neg hp]
    have q1 : (r.att.pref == -1) = false := by simpa using hp
    clear hp
    have HO3 := hide (HO1.out.later (w' := w2) (by rw [HXE.out]; exact H12.out))
    go_wp2_with fail
    refine kept_load_intro _ _ _ (by rfl) (run_loadAb HX2.out (AC.of _ _ _ _ _ _ _)) ?_
    go_wp2_with fail
    refine kept_store_intro _ _ _ _ (by rfl) (by rfl) (run_storeAb HY2.out rfl (AC.of _ _ _ _ _ _ _)) ?_
    have HY4 : Hid (Ab (w2.setCells (w.heap.size + 1) 0 (atC pa9 pc9 ca9 cc9 ra9 rc9 r.att).toList) (w.heap.size + 1) (atC pa9 pc9 ca9 cc9 ra9 rc9 r.att)) := HY2.out.put rfl
    have HO4 := hide ((HO3.out.keeps ((Keeps.refl (fun k => k = w.heap.size + 1) w2).setCells (w.heap.size + 1) 0 (atC pa9 pc9 ca9 cc9 ra9 rc9 r.att).toList (.inl rfl)) (fun b h1 h2 => by omega)).base (B' := w.heap.size) (by omega))
    have HB4 := hide (below_puts HB2.out (X := w.heap.size + 1) (by omega) (atC pa9 pc9 ca9 cc9 ra9 rc9 r.att).toList)
    generalize w2.setCells (w.heap.size + 1) 0 (atC pa9 pc9 ca9 cc9 ra9 rc9 r.att).toList = w4 at *
    go_wp2_with fail
    refine bodyPost_ret (v := .agg (atC pa9 pc9 ca9 cc9 ra9 rc9 r.att)) (resA_one Tryd.results26 _ w4 (w.heap.size + 1) _ rfl HY4.out (AC.of _ _ _ _ _ _ _)) rfl ⟨pa9, pc9, ca9, cc9, ra9, rc9, by rw [HTA.out], HO4.out, HB4.out⟩
theorem own_cap {w : World} {B e size n : Nat} {a : Option Addr} {c : Nat} {xs : List Value} (h : w.ownsRow B e size (.slice a n c) n xs) : n ≤ c := by
  rcases h.2 with ⟨e1, rfl⟩ | ⟨g, cap, cur, e1, _, _, hle, _⟩
  · exact Nat.zero_le _
  · injection e1 with _ _ e3
    rw [e3]
    exact hle
set_option maxHeartbeats 3200000 in
theorem toOthers_any (c : Cfg) (pa : Option Addr) (pc : Nat) (ca : Option Addr) (cc : Nat) (ra : Option Addr) (rc : Nat) (r : Rt) (w : World) (hl : sizeA r.att ≤ 50000) (h : AtRd w pa ca ra r.att) :
    Calls Tryd.prog 28 #[.agg (cfgC c), .agg (rtC pa pc ca cc ra rc r)] w fun e w' => ∃ pa' pc' ca' cc' ra' rc', e = .returned (.agg (atC pa' pc' ca' cc' ra' rc' (othA c r.att))) ∧ OwnAt w' w.heap.size pa' pc' ca' cc' ra' rc' (othA c r.att) ∧ Below w.heap.size w w' := by
  have HR := hide h
  have HL := hide hl
  clear h hl
  obtain ⟨C, hC⟩ : ∃ C, C = rtC pa pc ca cc ra rc r := ⟨_, rfl⟩
  rw [← hC]
  have HC := hide hC
  clear hC
  have g0 : (cfgC c)[0]? = some (.int .i64 c.asn) := rfl
  have g2 : (cfgC c)[2]? = some (.int .u32 (c.next : Int)) := rfl
  obtain ⟨C0, hC0⟩ : ∃ C0, C0 = cfgC c := ⟨_, rfl⟩
  rw [← hC0] at g0 g2 ⊢
  clear hC0
  go_enter Tryd.func28, Tryd.ntmps28
  go_wp2_with fail
  refine kept_box_intro _ _ _ (by rfl) (run_boxS _ C0 w) ?_
  go_wp2_with fail
  refine kept_box_intro _ _ _ (by rfl) (run_boxS _ C _) ?_
  go_wp2_with fail
  refine kept_alloc_intro _ (run_allocA _) ?_
  obtain ⟨W0, hW0⟩ : ∃ W0, W0 = ((w.alloc (.cells C0 24)).alloc (.cells C 36)).alloc (.cells zA 34) := ⟨_, rfl⟩
  have hs2 : ((w.alloc (.cells C0 24)).alloc (.cells C 36)).heap.size = w.heap.size + 2 := by simp
  have hs1 : (w.alloc (.cells C0 24)).heap.size = w.heap.size + 1 := by simp
  have HB0 : Hid (Below w.heap.size w W0) := by show Below _ _ _; rw [hW0]; exact (((Below.refl _ _).alloc (Nat.le_refl _) _).alloc (by omega) _).alloc (by omega) _
  have HC0 : Hid (Bk 24 W0 w.heap.size C0) := by show Bk _ _ _ _; rw [hW0]; exact ((Bk.new _ _ _).alloc _).alloc _
  have HX0 : Hid (Bk 36 W0 (w.heap.size + 1) (rtC pa pc ca cc ra rc r)) := by show Bk _ _ _ _; rw [hW0, HC.out]; have := (Bk.new 36 (w.alloc (.cells C0 24)) (rtC pa pc ca cc ra rc r)).alloc (.cells zA 34); rwa [hs1] at this
  have HY0 : Hid (Ab W0 (w.heap.size + 2) zA) := by show Ab _ _ _; rw [hW0]; have := Ab.new ((w.alloc (.cells C0 24)).alloc (.cells C 36)) zA; rwa [hs2] at this
  have hs0 : W0.heap.size = w.heap.size + 3 := by rw [hW0, World.size_alloc, hs2]
  rw [← hW0]
  simp only [World.size_alloc]
  clear hW0 hs1 hs2
  go_wp2_with fail
  refine kept_load_intro _ _ _ (by rfl) HX0.out.att ?_
  go_wp2_with fail
  refine (ownA_any pa pc ca cc ra rc r.att W0 (by have := HL.out; omega) (HR.out.below HB0.out)).mono ?_
  rintro e w1 ⟨pa9, pc9, ca9, cc9, ra9, rc9, rfl, ho1, hb1⟩
  have HO1 := hide ho1
  have HB1 : Hid (Below w.heap.size w w1) := HB0.out.trans (hb1.mono (by omega))
  have HY1 := hide (HY0.out.below hb1)
  have HC1 := hide (HC0.out.below hb1 HC0.out.lt)
  have hs1 : w.heap.size + 3 ≤ w1.heap.size := by have := hb1.size; omega
  rw [hs0] at HO1
  clear hb1 ho1 HB0 HX0 HY0 HC0 hs0
  go_wp2_with fail
  refine kept_alloc_intro _ (run_allocA _) ?_
  go_wp2_with fail
  refine kept_store_intro _ _ _ (.agg (atC pa9 pc9 ca9 cc9 ra9 rc9 r.att)) (by rfl) (by rfl) (run_storeAb (Ab.new w1 zA) rfl (AC.of _ _ _ _ _ _ _)) ?_
  have hb2 : Below w1.heap.size w1 ((w1.alloc (.cells zA 34)).setCells w1.heap.size 0 (atC pa9 pc9 ca9 cc9 ra9 rc9 r.att).toList) := below_puts ((Below.refl _ _).alloc (Nat.le_refl _) _) (Nat.le_refl _) _
  have HX2 : Hid (Ab ((w1.alloc (.cells zA 34)).setCells w1.heap.size 0 (atC pa9 pc9 ca9 cc9 ra9 rc9 r.att).toList) w1.heap.size (atC pa9 pc9 ca9 cc9 ra9 rc9 r.att)) := (Ab.new w1 zA).put rfl
  have H12 := hide hb2
  have HB2 : Hid (Below w.heap.size w ((w1.alloc (.cells zA 34)).setCells w1.heap.size 0 (atC pa9 pc9 ca9 cc9 ra9 rc9 r.att).toList)) := HB1.out.trans (hb2.mono (by omega))
  have HY2 := hide (HY1.out.below hb2)
  have HC2 := hide (HC1.out.below hb2 HC1.out.lt)
  have hs2 : w1.heap.size < ((w1.alloc (.cells zA 34)).setCells w1.heap.size 0 (atC pa9 pc9 ca9 cc9 ra9 rc9 r.att).toList).heap.size := by rw [size_puts]; simp
  clear hb2 HB1 HY1 HC1
  generalize (w1.alloc (.cells zA 34)).setCells w1.heap.size 0 (atC pa9 pc9 ca9 cc9 ra9 rc9 r.att).toList = w2 at *
  generalize hXE : w1.heap.size = X at *
  have HXE := hide hXE
  clear hXE
  have x1 : w2.cell? ⟨X, 1, none⟩ = some (.slice pa9 r.att.path.length pc9) := HX2.out.cell 1 rfl
  have c0 := HC2.out.cell 0 g0
  have HPR : Hid (PthRd w2 pa9 r.att.path) := ((HO1.out.rd (by have := HL.out; omega) HR.out.next HR.out.raws.bytes).below (by rw [HXE.out]; exact H12.out)).path
  have HCAP : Hid (r.att.path.length ≤ pc9) := by obtain ⟨_, ho, _⟩ := HO1.out.path; exact own_cap ho
  have HLP : Hid (r.att.path.length + sumP r.att.path ≤ 50000) := by have h9 := HL.out; unfold sizeA at h9; show _ ≤ _; omega
  go_wp2_with fail
  refine (prepend_any pa9 pc9 r.att.path c.asn w2 HLP.out HCAP.out HPR.out).mono ?_
  rintro e w3 ⟨v, rfl, hp3, hb3⟩
  obtain ⟨qa, qc, rfl⟩ : ∃ qa qc, v = .slice qa (prepP c.asn r.att.path).length qc := by obtain ⟨_, ho, _⟩ := hp3; exact own_shape ho
  have HP3 := hide hp3
  have HX3 := hide (HX2.out.below hb3)
  have HY3 := hide (HY2.out.below hb3)
  have HC3 := hide (HC2.out.below hb3 HC2.out.lt)
  have HB3 : Hid (Below w.heap.size w w3) := HB2.out.trans (hb3.mono HB2.out.size)
  have H13 : Hid (Below X w1 w3) := H12.out.trans (hb3.mono (by omega))
  clear hp3 hb3 x1 c0 HX2 HY2 HC2 HB2 H12 HPR HCAP HLP
  have x1 : w3.cell? ⟨X, 1, none⟩ = some (.slice pa9 r.att.path.length pc9) := HX3.out.cell 1 rfl
  have x2 : w3.cell? ⟨X, 2, none⟩ = some (.int .u32 (r.att.next : Int)) := HX3.out.cell 2 rfl
  have x3 : w3.cell? ⟨X, 3, none⟩ = some (.int .i64 r.att.med) := HX3.out.cell 3 rfl
  have x4 : w3.cell? ⟨X, 4, none⟩ = some (.int .i64 r.att.pref) := HX3.out.cell 4 rfl
  have f1 := HX3.out.frozen 1
  have f2 := HX3.out.frozen 2
  have f3 := HX3.out.frozen 3
  have f4 := HX3.out.frozen 4
  have c2 := HC3.out.cell 2 g2
  have hne : w.heap.size ≠ X := by omega
  go_wp2_with fail
  have HX4 : Hid (Ab ((((w3.setCell ⟨X, 1, none⟩ (.slice qa (prepP c.asn r.att.path).length qc)).setCell ⟨X, 2, none⟩ (.int .u32 (c.next : Int))).setCell ⟨X, 3, none⟩ (.int .i64 (-1))).setCell ⟨X, 4, none⟩ (.int .i64 (-1))) X (atC qa qc ca9 cc9 ra9 rc9 (othA c r.att))) := (((HX3.out.set 1 _).set 2 _).set 3 _).set 4 _
  have hkX : Keeps (fun k => k = X) w3 ((((w3.setCell ⟨X, 1, none⟩ (.slice qa (prepP c.asn r.att.path).length qc)).setCell ⟨X, 2, none⟩ (.int .u32 (c.next : Int))).setCell ⟨X, 3, none⟩ (.int .i64 (-1))).setCell ⟨X, 4, none⟩ (.int .i64 (-1))) := ((((Keeps.refl (fun k => k = X) w3).setCell X 1 _ (.inl rfl)).setCell X 2 _ (.inl rfl)).setCell X 3 _ (.inl rfl)).setCell X 4 _ (.inl rfl)
  have HY4 : Hid (Ab ((((w3.setCell ⟨X, 1, none⟩ (.slice qa (prepP c.asn r.att.path).length qc)).setCell ⟨X, 2, none⟩ (.int .u32 (c.next : Int))).setCell ⟨X, 3, none⟩ (.int .i64 (-1))).setCell ⟨X, 4, none⟩ (.int .i64 (-1))) (w.heap.size + 2) zA) := by
    show Ab _ _ _
    unfold Ab
    rw [hkX.block _ HY3.out.lt (by omega)]
    exact HY3.out
  have HP4 := hide (HP3.out.keeps hkX (fun b h1 h2 => by omega))
  have H14 : Hid (Below X w1 ((((w3.setCell ⟨X, 1, none⟩ (.slice qa (prepP c.asn r.att.path).length qc)).setCell ⟨X, 2, none⟩ (.int .u32 (c.next : Int))).setCell ⟨X, 3, none⟩ (.int .i64 (-1))).setCell ⟨X, 4, none⟩ (.int .i64 (-1)))) := H13.out.trans (hkX.below X (by have := HX3.out.lt; omega) (fun b h => by omega))
  have HB4 : Hid (Below w.heap.size w ((((w3.setCell ⟨X, 1, none⟩ (.slice qa (prepP c.asn r.att.path).length qc)).setCell ⟨X, 2, none⟩ (.int .u32 (c.next : Int))).setCell ⟨X, 3, none⟩ (.int .i64 (-1))).setCell ⟨X, 4, none⟩ (.int .i64 (-1)))) := HB3.out.trans (hkX.below _ HB3.out.size (fun b h => by omega))
  clear hkX HX3 HY3 HP3 H13 HB3 x1 x2 x3 x4 f1 f2 f3 f4 c2 HC3
  generalize (((w3.setCell ⟨X, 1, none⟩ (.slice qa (prepP c.asn r.att.path).length qc)).setCell ⟨X, 2, none⟩ (.int .u32 (c.next : Int))).setCell ⟨X, 3, none⟩ (.int .i64 (-1))).setCell ⟨X, 4, none⟩ (.int .i64 (-1)) = w4 at *
  have HO4 := hide (HO1.out.later (w' := w4) (by rw [HXE.out]; exact H14.out))
  refine kept_load_intro _ _ _ (by rfl) (run_loadAb HX4.out (AC.of _ _ _ _ _ _ _)) ?_
  go_wp2_with fail
  refine kept_store_intro _ _ _ _ (by rfl) (by rfl) (run_storeAb HY4.out rfl (AC.of _ _ _ _ _ _ _)) ?_
  have HY5 : Hid (Ab (w4.setCells (w.heap.size + 2) 0 (atC qa qc ca9 cc9 ra9 rc9 (othA c r.att)).toList) (w.heap.size + 2) (atC qa qc ca9 cc9 ra9 rc9 (othA c r.att))) := HY4.out.put rfl
  have hk5 := (Keeps.refl (fun k => k = w.heap.size + 2) w4).setCells (w.heap.size + 2) 0 (atC qa qc ca9 cc9 ra9 rc9 (othA c r.att)).toList (.inl rfl)
  have HO5 := hide ((HO4.out.keeps hk5 (fun b h1 h2 => by omega)).base (B' := w.heap.size) (by omega))
  have HP5 := hide ((HP4.out.keeps hk5 (fun b h1 h2 => by omega)).base (B' := w.heap.size) (by omega))
  have HB5 := hide (below_puts HB4.out (X := w.heap.size + 2) (by omega) (atC qa qc ca9 cc9 ra9 rc9 (othA c r.att)).toList)
  clear hk5
  generalize w4.setCells (w.heap.size + 2) 0 (atC qa qc ca9 cc9 ra9 rc9 (othA c r.att)).toList = w5 at *
  go_wp2_with fail
  refine bodyPost_ret (v := .agg (atC qa qc ca9 cc9 ra9 rc9 (othA c r.att))) (resA_one Tryd.results28 _ w5 (w.heap.size + 2) _ rfl HY5.out (AC.of _ _ _ _ _ _ _)) rfl ⟨qa, qc, ca9, cc9, ra9, rc9, rfl, ⟨HP5.out, HO5.out.comms, HO5.out.raws⟩, HB5.out⟩
end
end Go.Proofs.YthigjonagbfbbaaDoor
