/- The program's Own: a route of its own memory. -/
import Derived.Test.YtjlmkaeepeamkaaRtM
import Derived.Test.YtjlmkaeepeamkaaRtO
import Derived.Test.YtjlmkaeepeamkaaRtR
namespace Go.Proofs.Ytjlmkaeepeamkaa
open Go.RowKit
set_option maxRecDepth 100000

/-- All that attributes lead to is new since B. -/
structure OwnAt (w : World) (B : Nat) (pa : Option Addr) (pc : Nat) (ca : Option Addr) (cc : Nat) (ra : Option Addr) (rc : Nat) (a : At) : Prop where
  path : OwnPath w B (.slice pa a.path.length pc) a.path
  comms : w.ownsRow B 27 1 (.slice ca a.comms.length cc) a.comms.length (ucells a.comms)
  raws : OwnRaws w B (.slice ra a.raws.length rc) a.raws
theorem OwnAt.later {w w' : World} {B : Nat} {pa : Option Addr} {pc : Nat} {ca : Option Addr} {cc : Nat} {ra : Option Addr} {rc : Nat} {a : At} (h : OwnAt w B pa pc ca cc ra rc a) (hb : Below w.heap.size w w') : OwnAt w' B pa pc ca cc ra rc a :=
  ⟨h.path.later hb, own_later h.comms hb, h.raws.later hb⟩
theorem own_keeps {F : Nat → Prop} {w w' : World} {B e size n : Nat} {v : Value} {xs : List Value} (h : w.ownsRow B e size v n xs) (hk : Keeps F w w') (hF : ∀ b, B ≤ b → ¬ F b) : w'.ownsRow B e size v n xs := by
  refine ⟨h.1, ?_⟩
  rcases h.2 with hh | ⟨g, cap, cur, e1, hg, hc, rest⟩
  · exact .inl hh
  · exact .inr ⟨g, cap, cur, e1, hg, by rw [hk.block g (Array.getElem?_eq_some_iff.1 hc).1 (hF g hg)]; exact hc, rest⟩
theorem OwnPath.keeps {F : Nat → Prop} {w w' : World} {B : Nat} {v : Value} {ss : List (Bool × List Int)} (h : OwnPath w B v ss) (hk : Keeps F w w') (hF : ∀ b, B ≤ b → ¬ F b) : OwnPath w' B v ss := by
  obtain ⟨cs, ho, hc⟩ := h
  refine ⟨cs, own_keeps ho hk hF, fun i s hi => ?_⟩
  obtain ⟨h1, u, h2, h3⟩ := hc i s hi
  exact ⟨h1, u, h2, own_keeps h3 hk hF⟩
theorem OwnRaws.keeps {F : Nat → Prop} {w w' : World} {B : Nat} {v : Value} {ss : List (Int × Int × List Nat)} (h : OwnRaws w B v ss) (hk : Keeps F w w') (hF : ∀ b, B ≤ b → ¬ F b) : OwnRaws w' B v ss := by
  obtain ⟨cs, ho, hc⟩ := h
  refine ⟨cs, own_keeps ho hk hF, fun i s hi => ?_⟩
  obtain ⟨h1, h2, u, h3, h4⟩ := hc i s hi
  exact ⟨h1, h2, u, h3, own_keeps h4 hk hF⟩
theorem OwnAt.keeps {F : Nat → Prop} {w w' : World} {B : Nat} {pa : Option Addr} {pc : Nat} {ca : Option Addr} {cc : Nat} {ra : Option Addr} {rc : Nat} {a : At} (h : OwnAt w B pa pc ca cc ra rc a) (hk : Keeps F w w') (hF : ∀ b, B ≤ b → ¬ F b) : OwnAt w' B pa pc ca cc ra rc a :=
  ⟨h.path.keeps hk hF, own_keeps h.comms hk hF, h.raws.keeps hk hF⟩
theorem OwnPath.base {w : World} {B B' : Nat} {v : Value} {ss : List (Bool × List Int)} (h : OwnPath w B v ss) (hB : B' ≤ B) : OwnPath w B' v ss := by
  obtain ⟨cs, ho, hc⟩ := h
  refine ⟨cs, own_base ho hB, fun i s hi => ?_⟩
  obtain ⟨h1, u, h2, h3⟩ := hc i s hi
  exact ⟨h1, u, h2, own_base h3 hB⟩
theorem OwnAt.base {w : World} {B B' : Nat} {pa : Option Addr} {pc : Nat} {ca : Option Addr} {cc : Nat} {ra : Option Addr} {rc : Nat} {a : At} (h : OwnAt w B pa pc ca cc ra rc a) (hB : B' ≤ B) : OwnAt w B' pa pc ca cc ra rc a :=
  ⟨h.path.base hB, own_base h.comms hB, h.raws.base hB⟩
/-- What is good of attributes that are read: bytes are bytes. -/
theorem RawRd.bytes {w : World} {a : Option Addr} {rs : List (Int × Int × List Nat)} (h : RawRd w a rs) : ∀ r ∈ rs, ∀ x ∈ r.2.2, x < 256 := by
  intro r hr
  obtain ⟨i, hi, rfl⟩ := List.getElem_of_mem hr
  obtain ⟨b, off, rfl, hc⟩ := h (by omega)
  obtain ⟨_, _, a', c', _, _, h5⟩ := hc i _ (List.getElem?_eq_getElem hi)
  exact h5.2
theorem OwnAt.rd {w : World} {B : Nat} {pa : Option Addr} {pc : Nat} {ca : Option Addr} {cc : Nat} {ra : Option Addr} {rc : Nat} {a : At} (h : OwnAt w B pa pc ca cc ra rc a) (hs : sizeA a ≤ 100000) (hn : a.next < 4294967296) (hb : ∀ r ∈ a.raws, ∀ x ∈ r.2.2, x < 256) : AtRd w pa ca ra a := by
  unfold sizeA at hs
  obtain ⟨_, _, e1, h1⟩ := h.path.rd (by omega) (fun s hs2 => by have := sumP_mem _ _ hs2; omega)
  obtain ⟨_, _, e2, h2⟩ := own_crd h.comms
  obtain ⟨_, _, e3, h3⟩ := h.raws.rd (fun r hr => ⟨by have := sumR_mem _ _ hr; omega, hb r hr⟩)
  injection e1 with e1 _ _
  injection e2 with e2 _ _
  injection e3 with e3 _ _
  subst e1 e2 e3
  exact ⟨h1, h2, h3, hn⟩
/-- What Own answers of r. -/
def OwnIs (w w' : World) (e : Ending) (r : Rt) : Prop := ∃ pa pc ca cc ra rc, e = .returned (rtV pa pc ca cc ra rc r) ∧ OwnAt w' w.heap.size pa pc ca cc ra rc r.att
theorem cells_u {w : World} {a : Option Addr} {zs : List Nat} (h : CRd w a zs) : Cells w a zs.length 1 (ucells zs) := by
  refine ⟨by rw [ucells_length]; omega, fun e => ?_, fun ad e j u hu => ?_, ucells_one _⟩
  · cases zs with
    | nil => rfl
    | cons z r => obtain ⟨b, off, e2, _⟩ := h (by simp); rw [e] at e2; cases e2
  · have hj : j < zs.length := by have := (List.getElem?_eq_some_iff.1 hu).1; rwa [ucells_length] at this
    obtain ⟨b, off, e2, hc⟩ := h (by omega)
    rw [e] at e2
    cases e2
    rw [Addr.add_mid, hc j _ (List.getElem?_eq_getElem hj), ← hu]
    simp [ucells, hj]
section
attribute [local go_sem ↓] keptR_load keptR_store keptR_box keptR_alloc keptR_build
set_option maxHeartbeats 1600000 in
theorem own_any (pa : Option Addr) (pc : Nat) (ca : Option Addr) (cc : Nat) (ra : Option Addr) (rc : Nat) (r : Rt) (w : World) (hl : sizeA r.att ≤ 100000) (h : AtRd w pa ca ra r.att) :
    Calls Try.prog 22 #[rtV pa pc ca cc ra rc r] w fun e w' => OwnIs w w' e r ∧ Below w.heap.size w w' := by
  have HR := hide h
  have HL : Hid (r.att.path.length + sumP r.att.path ≤ 100000 ∧ r.att.comms.length ≤ 100000 ∧ r.att.raws.length + sumR r.att.raws ≤ 100000) := by show _ ∧ _; unfold sizeA at hl; omega
  clear h hl
  rw [rtV_eq]
  obtain ⟨C, hC⟩ : ∃ C, C = rtC pa pc ca cc ra rc r := ⟨_, rfl⟩
  rw [← hC]
  have HC := hide hC
  clear hC
  go_enter Try.func22, Try.ntmps22
  go_wp2_with fail
  refine kept_box_intro _ _ _ (by rfl) (run_boxR C w) ?_
  go_wp2_with fail
  refine kept_alloc_intro _ (run_allocR _) ?_
  obtain ⟨W0, hW0⟩ : ∃ W0, W0 = (w.alloc (.cells C 36)).alloc (.cells zR 36) := ⟨_, rfl⟩
  have hs0 : W0.heap.size = w.heap.size + 2 := by rw [hW0]; simp
  have HB0 : Hid (Below w.heap.size w W0) := by show Below _ _ _; rw [hW0]; exact ((Below.refl _ _).alloc (Nat.le_refl _) _).alloc (by simp) _
  have HX0 : Hid (Bl W0 w.heap.size C) := by show Bl _ _ _; rw [hW0]; exact (Bl.new w C).below ((Below.refl _ _).alloc (Nat.le_refl _) _)
  have HY0 : Hid (Bl W0 (w.heap.size + 1) zR) := by show Bl _ _ _; rw [hW0]; have := Bl.new (w.alloc (.cells C 36)) zR; simpa using this
  rw [← hW0]
  simp only [World.size_alloc]
  clear hW0
  have c4 : W0.cell? ⟨w.heap.size, 4, none⟩ = some (.slice pa r.att.path.length pc) := HX0.out.cell 4 (by rw [HC.out]; rfl)
  have z0 := HX0.out.lt
  go_wp2_with fail
  refine (own_path pa pc r.att.path W0 HL.out.1 (HR.out.path.below HB0.out)).mono ?_
  rintro e w1 ⟨pa9, pc9, rfl, ho1, hb1⟩
  have HO1 := hide ho1
  have HB1 : Hid (Below w.heap.size w w1) := HB0.out.trans (hb1.mono (by omega))
  have HX1 := hide (HX0.out.below hb1)
  have HY1 := hide (HY0.out.below hb1)
  have hs1 : w.heap.size + 2 ≤ w1.heap.size := by have := hb1.size; omega
  clear c4 z0 HX0 HY0 HB0 ho1 hb1
  have c4 : w1.cell? ⟨w.heap.size, 4, none⟩ = some (.slice pa r.att.path.length pc) := HX1.out.cell 4 (by rw [HC.out]; rfl)
  have c8 : w1.cell? ⟨w.heap.size, 8, none⟩ = some (.slice ca r.att.comms.length cc) := HX1.out.cell 8 (by rw [HC.out]; rfl)
  have f4 := HX1.out.frozen 4
  have z1 : w.heap.size < w1.heap.size := by omega
  go_wp2_with fail
  have HX2 := hide (HX1.out.set 4 (.slice pa9 r.att.path.length pc9))
  have HY2 := hide (HY1.out.other 4 (.slice pa9 r.att.path.length pc9) (Y := w.heap.size) (by omega))
  have HB2 : Hid (Below w.heap.size w (w1.setCell ⟨w.heap.size, 4, none⟩ (.slice pa9 r.att.path.length pc9))) := HB1.out.setCell (Nat.le_refl _) _
  have HO2 : Hid (OwnPath (w1.setCell ⟨w.heap.size, 4, none⟩ (.slice pa9 r.att.path.length pc9)) (w.heap.size + 2) (.slice pa9 r.att.path.length pc9) r.att.path) := by
    have h9 := HO1.out
    rw [hs0] at h9
    exact h9.keeps ((Keeps.refl (fun k => k = w.heap.size) w1).setCell _ _ _ (.inl rfl)) (fun b h1 h2 => by omega)
  have hs2 : w.heap.size + 2 ≤ (w1.setCell ⟨w.heap.size, 4, none⟩ (.slice pa9 r.att.path.length pc9)).heap.size := by simpa using hs1
  generalize w1.setCell ⟨w.heap.size, 4, none⟩ (.slice pa9 r.att.path.length pc9) = w2 at *
  clear c4 c8 f4 z1 HX1 HY1 HB1 HO1 hs1 hs0
  refine (clone_u ca _ cc _ w2 HL.out.2.1 (cells_u (HR.out.comms.below HB2.out))).mono ?_
  rintro e w3 ⟨ca9, cc9, rfl, ho3, hb3⟩
  have HQ3 : Hid (w3.ownsRow (w.heap.size + 2) 27 1 (.slice ca9 r.att.comms.length cc9) r.att.comms.length (ucells r.att.comms)) := own_base ho3 hs2
  have HO3 := hide (HO2.out.later hb3)
  have HB3 : Hid (Below w.heap.size w w3) := HB2.out.trans (hb3.mono (by omega))
  have HX3 := hide (HX2.out.below hb3)
  have HY3 := hide (HY2.out.below hb3)
  have hs3 : w.heap.size + 2 ≤ w3.heap.size := by have := hb3.size; omega
  clear ho3 hb3 HO2 HB2 HX2 HY2 hs2
  have c8 : w3.cell? ⟨w.heap.size, 8, none⟩ = some (.slice ca r.att.comms.length cc) := HX3.out.cell 8 (by rw [HC.out]; rfl)
  have c9 : w3.cell? ⟨w.heap.size, 9, none⟩ = some (.slice ra r.att.raws.length rc) := HX3.out.cell 9 (by rw [HC.out]; rfl)
  have f8 := HX3.out.frozen 8
  have z3 : w.heap.size < w3.heap.size := by omega
  go_wp2_with fail
  have HX4 := hide (HX3.out.set 8 (.slice ca9 r.att.comms.length cc9))
  have HY4 := hide (HY3.out.other 8 (.slice ca9 r.att.comms.length cc9) (Y := w.heap.size) (by omega))
  have HB4 : Hid (Below w.heap.size w (w3.setCell ⟨w.heap.size, 8, none⟩ (.slice ca9 r.att.comms.length cc9))) := HB3.out.setCell (Nat.le_refl _) _
  have hkk := (Keeps.refl (fun k => k = w.heap.size) w3).setCell w.heap.size 8 (.slice ca9 r.att.comms.length cc9) (.inl rfl)
  have HO4 := hide (HO3.out.keeps hkk (fun b h1 h2 => by omega))
  have HQ4 := hide (own_keeps HQ3.out hkk (fun b h1 h2 => by omega))
  have hs4 : w.heap.size + 2 ≤ (w3.setCell ⟨w.heap.size, 8, none⟩ (.slice ca9 r.att.comms.length cc9)).heap.size := by simpa using hs3
  clear hkk
  generalize w3.setCell ⟨w.heap.size, 8, none⟩ (.slice ca9 r.att.comms.length cc9) = w4 at *
  clear c8 c9 f8 z3 HX3 HY3 HB3 HO3 HQ3 hs3
  refine (own_raws ra rc r.att.raws w4 HL.out.2.2 (HR.out.raws.below HB4.out)).mono ?_
  rintro e w5 ⟨ra9, rc9, rfl, ho5, hb5⟩
  have HU5 : Hid (OwnRaws w5 (w.heap.size + 2) (.slice ra9 r.att.raws.length rc9) r.att.raws) := ho5.base hs4
  have HO5 := hide (HO4.out.later hb5)
  have HQ5 := hide (own_later HQ4.out hb5)
  have HB5 : Hid (Below w.heap.size w w5) := HB4.out.trans (hb5.mono (by omega))
  have HX5 := hide (HX4.out.below hb5)
  have HY5 := hide (HY4.out.below hb5)
  have hs5 : w.heap.size + 2 ≤ w5.heap.size := by have := hb5.size; omega
  clear ho5 hb5 HO4 HQ4 HB4 HX4 HY4 hs4
  have c9 : w5.cell? ⟨w.heap.size, 9, none⟩ = some (.slice ra r.att.raws.length rc) := HX5.out.cell 9 (by rw [HC.out]; rfl)
  have f9 := HX5.out.frozen 9
  have z5 : w.heap.size < w5.heap.size := by omega
  go_wp2_with fail
  have HX6 : Hid (Bl (w5.setCell ⟨w.heap.size, 9, none⟩ (.slice ra9 r.att.raws.length rc9)) w.heap.size (rtC pa9 pc9 ca9 cc9 ra9 rc9 r)) := by
    have h9 := HX5.out.set 9 (.slice ra9 r.att.raws.length rc9)
    rw [HC.out] at h9
    exact h9
  have HY6 := hide (HY5.out.other 9 (.slice ra9 r.att.raws.length rc9) (Y := w.heap.size) (by omega))
  have HB6 : Hid (Below w.heap.size w (w5.setCell ⟨w.heap.size, 9, none⟩ (.slice ra9 r.att.raws.length rc9))) := HB5.out.setCell (Nat.le_refl _) _
  have hkk := (Keeps.refl (fun k => k = w.heap.size) w5).setCell w.heap.size 9 (.slice ra9 r.att.raws.length rc9) (.inl rfl)
  have HO6 := hide (HO5.out.keeps hkk (fun b h1 h2 => by omega))
  have HQ6 := hide (own_keeps HQ5.out hkk (fun b h1 h2 => by omega))
  have HU6 := hide (HU5.out.keeps hkk (fun b h1 h2 => by omega))
  clear hkk
  generalize w5.setCell ⟨w.heap.size, 9, none⟩ (.slice ra9 r.att.raws.length rc9) = w6 at *
  clear c9 f9 z5 HX5 HY5 HB5 HO5 HQ5 HU5 hs5
  refine kept_load_intro _ _ _ (by rfl) (run_loadR HX6.out (RC.rt _ _ _ _ _ _ _)) ?_
  go_wp2_with fail
  refine kept_store_intro _ _ _ _ (by rfl) (by rfl) (run_storeR HY6.out rfl (RC.rt _ _ _ _ _ _ _)) ?_
  have HY7 : Hid (Bl (w6.setCells (w.heap.size + 1) 0 (rtC pa9 pc9 ca9 cc9 ra9 rc9 r).toList) (w.heap.size + 1) (rtC pa9 pc9 ca9 cc9 ra9 rc9 r)) := HY6.out.put rfl
  have hkk := (Keeps.refl (fun k => k = w.heap.size + 1) w6).setCells (w.heap.size + 1) 0 (rtC pa9 pc9 ca9 cc9 ra9 rc9 r).toList (.inl rfl)
  have HA7 : Hid (OwnAt (w6.setCells (w.heap.size + 1) 0 (rtC pa9 pc9 ca9 cc9 ra9 rc9 r).toList) w.heap.size pa9 pc9 ca9 cc9 ra9 rc9 r.att) := (OwnAt.keeps ⟨HO6.out, HQ6.out, HU6.out⟩ hkk (fun b h1 h2 => by omega)).base (by omega)
  have HB7 := hide (below_puts HB6.out (X := w.heap.size + 1) (by omega) (rtC pa9 pc9 ca9 cc9 ra9 rc9 r).toList)
  clear hkk HX6 HY6 HB6 HO6 HQ6 HU6
  generalize w6.setCells (w.heap.size + 1) 0 (rtC pa9 pc9 ca9 cc9 ra9 rc9 r).toList = w7 at *
  go_wp2_with fail
  refine bodyPost_ret (v := .agg (rtC pa9 pc9 ca9 cc9 ra9 rc9 r)) (res_one Try.results22 _ w7 (w.heap.size + 1) _ rfl HY7.out (RC.rt _ _ _ _ _ _ _)) rfl ⟨⟨pa9, pc9, ca9, cc9, ra9, rc9, rfl, HA7.out⟩, HB7.out⟩
end
end Go.Proofs.Ytjlmkaeepeamkaa
