/- The program's known. -/
import Derived.Test.YtempaadgheondaaDoorAtQb
import Derived.Test.YtempaadgheondaaDoorHQe
import Derived.Test.YtempaadgheondaaDoorHPlain
import Derived.Test.YtempaadgheondaaDoorHBox
import Derived.Deep.RegionHeld3
import Derived.Deep.RegionWith
import Derived.Deep.DeepCutAuto
namespace Go.Proofs.YtempaadgheondaaDoor
open Go.RowKit
set_option maxRecDepth 100000

theorem below_alloc {w w1 : World} (h : Below w.heap.size w w1) (o : Obj) : Below w.heap.size w (w1.alloc o) := h.alloc h.size o
theorem own_byte {w X : World} (h : Below w.heap.size w X) (y : Nat) : (X.alloc (.cells #[.int .u8 (y : Int)] 5)).ownsRow w.heap.size 5 1 (.slice (some ⟨X.heap.size, 0, none⟩) 1 1) 1 (bcells [y]) := own_base (own_u8s X 1 [y] rfl (by omega)) h.size
/-- toldAs, and rows that are there. -/
theorem told_rows (k : Nat) (h1 : 1 ≤ k) (h8 : k ≤ 8) (w : World) (hS : Said w) (W : World) (hb : Below w.heap.size w W) (a : Option Addr) (n c : Nat) :
    Calls Tryd.prog 48 #[.int .i64 (k : Int), .slice a n c] W fun e w' => e = .returned (.agg #[.int .i64 (flagN k : Int), .int .i64 (k : Int), .slice a n c]) ∧ Below W.heap.size W w' ∧ Below w.heap.size w w' :=
  (told_any k a n c W (hS.below hb) h1 h8).mono fun _ _ h9 => ⟨h9.1, h9.2, hb.trans (h9.2.mono hb.size)⟩
theorem bytes_one (nx : Nat) (hnx : nx < 4294967296) (w : World) (W : World) (hb : Below w.heap.size w W) (H : Nat) (hc : W.cell? ⟨H, 0, none⟩ = some (.int .u32 (nx : Int))) :
    Calls Tryd.prog 50 #[.slice (some ⟨H, 0, none⟩) 1 1] W fun e w' => ∃ a9 c9, e = .returned (.slice a9 4 c9) ∧ w'.ownsRow w.heap.size 5 1 (.slice a9 4 c9) 4 (bcells (b4 (nx : Int))) ∧ Below W.heap.size W w' ∧ Below w.heap.size w w' := by
  refine (bytesOf_some H 0 1 [nx] W 1 rfl (by omega) (by omega) (fun x hx => by simp at hx; omega) (fun j z hj => by
    have hj0 : j = 0 := by have := (List.getElem?_eq_some_iff.1 hj).1; simpa using this
    subst hj0
    simp at hj
    subst hj
    exact hc)).mono ?_
  rintro e w' ⟨a9, c9, he, ho, hb2⟩
  have e4 : encC [nx] = b4 (nx : Int) := by unfold encC; simp [nums]
  rw [e4] at ho
  exact ⟨a9, c9, he, own_base ho hb.size, hb2, hb.trans (hb2.mono hb.size)⟩
theorem own_three {w5 : World} {B o pl nx H : Nat} {a2 a3 : Option Addr} {c2 c3 : Nat} {ps : List Nat} (hpl : ps.length = pl) (hB : B ≤ w5.heap.size) (h1 : w5.ownsRow B 5 1 (.slice (some ⟨H, 0, none⟩) 1 1) 1 (bcells [o])) (h2 : w5.ownsRow B 5 1 (.slice a2 pl c2) pl (bcells ps)) (h3 : w5.ownsRow B 5 1 (.slice a3 4 c3) 4 (bcells (b4 (nx : Int)))) :
    OwnRaws (w5.alloc (.cells #[.int .i64 64, .int .i64 1, .slice (some ⟨H, 0, none⟩) 1 1, .int .i64 64, .int .i64 2, .slice a2 pl c2, .int .i64 64, .int .i64 3, .slice a3 4 c3] 48)) B (.slice (some ⟨w5.heap.size, 0, none⟩) 3 3) [((64 : Int), (1 : Int), [o]), (64, 2, ps), (64, 3, b4 (nx : Int))] := by
  refine ⟨[.int .i64 64, .int .i64 1, .slice (some ⟨H, 0, none⟩) 1 1, .int .i64 64, .int .i64 2, .slice a2 pl c2, .int .i64 64, .int .i64 3, .slice a3 4 c3], ⟨rfl, .inr ⟨w5.heap.size, 3, _, rfl, hB, by unfold World.alloc; exact Array.getElem?_push_size, Nat.le_refl _, by unfold maxLen; omega, rfl, rfl⟩⟩, fun i r hi => ?_⟩
  have hi3 : i < 3 := by have := (List.getElem?_eq_some_iff.1 hi).1; simpa using this
  rcases (by omega : i = 0 ∨ i = 1 ∨ i = 2) with rfl | rfl | rfl
  · simp at hi
    subst hi
    exact ⟨rfl, rfl, _, rfl, h1.alloc _⟩
  · simp at hi
    subst hi
    exact ⟨rfl, rfl, _, rfl, by rw [hpl]; exact h2.alloc _⟩
  · simp at hi
    subst hi
    exact ⟨rfl, rfl, _, rfl, by rw [b4_length]; exact h3.alloc _⟩
/-- One attribute more behind them. -/
theorem add_raw {W : World} {B k n m : Nat} {p : Option Addr} {c : Nat} {a : Option Addr} {c1 : Nat} {L : List (Int × Int × List Nat)} {ds : List Nat} (f : Int) (h : OwnRaws W B (.slice p n c) L) (hn : L.length = n) (hu : W.ownsRow B 5 1 (.slice a m c1) m (bcells ds)) (hm : ds.length = m) (hB : B ≤ W.heap.size) (hl : n ≤ 1000) :
    ∃ p' c' W', (Builtin.append_ #[25, 25] 25 #[.slice p n c, .slice (some ⟨W.heap.size, 0, none⟩) 1 1]).run Tryd.prog (W.alloc (.cells #[.int .i64 f, .int .i64 (k : Int), .slice a m c1] 48)) = .ok (.slice p' (n + 1) c') W' ∧ OwnRaws W' B (.slice p' (n + 1) c') (L ++ [(f, (k : Int), ds)]) ∧ Below B W W' := by
  subst hn hm
  obtain ⟨v', W', hr, ho, hb⟩ := h.snoc (f := f) (t := (k : Int)) (ds := ds) hu rfl hB (by omega) W.heap.size rfl
  obtain ⟨cs, hw, hc⟩ := ho
  obtain ⟨p', c', e⟩ := own_shape hw
  rw [List.length_append] at e
  simp only [List.length_cons, List.length_nil, Nat.zero_add] at e
  subst e
  exact ⟨p', c', W', hr, ⟨cs, hw, hc⟩, hb⟩
/-- toldAs, and the append behind it. -/
theorem told_add (k : Nat) (h1 : 1 ≤ k) (h8 : k ≤ 8) (w : World) (hS : Said w) (B : Nat) (hB : B ≤ w.heap.size) (W : World) (hb : Below w.heap.size w W) {p : Option Addr} {n c : Nat} {L : List (Int × Int × List Nat)} (ho : OwnRaws W B (.slice p n c) L) (hn : L.length = n) (hl : n ≤ 1000) {a : Option Addr} {m c1 : Nat} {ds : List Nat} (hu : W.ownsRow B 5 1 (.slice a m c1) m (bcells ds)) (hm : ds.length = m) :
    Calls Tryd.prog 48 #[.int .i64 (k : Int), .slice a m c1] W fun e w' => ∃ p' c' W', e = .returned (.agg #[.int .i64 (flagN k : Int), .int .i64 (k : Int), .slice a m c1]) ∧ (Builtin.append_ #[25, 25] 25 #[.slice p n c, .slice (some ⟨w'.heap.size, 0, none⟩) 1 1]).run Tryd.prog (w'.alloc (.cells #[.int .i64 (flagN k : Int), .int .i64 (k : Int), .slice a m c1] 48)) = .ok (.slice p' (n + 1) c') W' ∧ OwnRaws W' B (.slice p' (n + 1) c') (L ++ [((flagN k : Int), (k : Int), ds)]) ∧ Below B w W' :=
  (told_rows k h1 h8 w hS W hb a m c1).mono fun e w' h9 => by
    obtain ⟨he, hbw, hbb⟩ := h9
    obtain ⟨p', c', W', hr, ho', hb'⟩ := add_raw (k := k) (flagN k : Int) (ho.later hbw) hn (own_later hu hbw) hm (by have := hbb.size; omega) hl
    exact ⟨p', c', W', he, hr, ho', (hbb.mono hB).trans hb'⟩
/-- The bytes of one number, told, behind the others. -/
theorem add_num (k : Nat) (h1 : 1 ≤ k) (h8 : k ≤ 8) (f q : Int) (hf : (flagN k : Int) = f) (hq : (k : Int) = q) (w : World) (hS : Said w) (wd : World) (hb : Below w.heap.size w wd) {p : Option Addr} {n c : Nat} {L : List (Int × Int × List Nat)} (ho : OwnRaws wd w.heap.size (.slice p n c) L) (hn : L.length = n) (hl : n ≤ 1000) (m : Nat) (hm : m < 4294967296) :
    Calls Tryd.prog 50 #[.slice (some ⟨wd.heap.size, 0, none⟩) 1 1] (wd.alloc (.cells #[.int .u32 (m : Int)] 23)) fun e w' => ∃ a3 c3, e = .returned (.slice a3 4 c3) ∧ Calls Tryd.prog 48 #[.int .i64 q, .slice a3 4 c3] w' fun e w2 => ∃ p' c' W', e = .returned (.agg #[.int .i64 f, .int .i64 q, .slice a3 4 c3]) ∧ (Builtin.append_ #[25, 25] 25 #[.slice p n c, .slice (some ⟨w2.heap.size, 0, none⟩) 1 1]).run Tryd.prog (w2.alloc (.cells #[.int .i64 f, .int .i64 q, .slice a3 4 c3] 48)) = .ok (.slice p' (n + 1) c') W' ∧ OwnRaws W' w.heap.size (.slice p' (n + 1) c') (L ++ [(f, q, b4 (m : Int))]) ∧ Below w.heap.size w W' := by
  subst hf hq
  refine (bytes_one m hm w _ (below_alloc hb _) wd.heap.size (by rw [World.cell?_alloc_mark]; rfl)).mono ?_
  rintro e w' ⟨a3, c3, he, ho3, hb3, hb4⟩
  exact ⟨a3, c3, he, told_add k h1 h8 w hS w.heap.size (Nat.le_refl _) w' hb4 ((ho.later ((Below.refl _ _).alloc (Nat.le_refl _) _)).later hb3) hn hl ho3 (b4_length _)⟩
theorem add_comms (w : World) (hS : Said w) (wd : World) (hb : Below w.heap.size w wd) {p : Option Addr} {n c : Nat} {L : List (Int × Int × List Nat)} (ho : OwnRaws wd w.heap.size (.slice p n c) L) (hn : L.length = n) (hl : n ≤ 1000) (ca : Option Addr) (cc : Nat) (cs : List Nat) (cn m : Nat) (hcn : cs.length = cn) (hm : 4 * cn = m) (h0 : 0 < cn) (hcl : cn ≤ 5000) (hf : ∀ x ∈ cs, x < 4294967296) (hC : CRd wd ca cs) :
    Calls Tryd.prog 50 #[.slice ca cn cc] wd fun e w' => ∃ a3 c3, e = .returned (.slice a3 m c3) ∧ Calls Tryd.prog 48 #[.int .i64 8, .slice a3 m c3] w' fun e w2 => ∃ p' c' W', e = .returned (.agg #[.int .i64 192, .int .i64 8, .slice a3 m c3]) ∧ (Builtin.append_ #[25, 25] 25 #[.slice p n c, .slice (some ⟨w2.heap.size, 0, none⟩) 1 1]).run Tryd.prog (w2.alloc (.cells #[.int .i64 192, .int .i64 8, .slice a3 m c3] 48)) = .ok (.slice p' (n + 1) c') W' ∧ OwnRaws W' w.heap.size (.slice p' (n + 1) c') (L ++ [(192, 8, encC cs)]) ∧ Below w.heap.size w W' := by
  obtain ⟨b, off, rfl, hc⟩ := hC (by omega)
  subst hm
  refine (bytesOf_some b off cc cs wd cn hcn hcl h0 hf hc).mono ?_
  rintro e w' ⟨a3, c3, he, ho3, hb3⟩
  have hb4 : Below w.heap.size w w' := hb.trans (hb3.mono hb.size)
  exact ⟨a3, c3, he, told_add 8 (by omega) (by omega) w hS w.heap.size (Nat.le_refl _) w' hb4 (ho.later hb3) hn hl (own_base ho3 hb.size) (by rw [← hcn]; exact encC_length cs)⟩
section
attribute [local go_sem ↓] Go.wp_at_zero Go.wp_at_succ kept_appendR
set_option maxHeartbeats 6400000 in
theorem known_any (o : Nat) (pa : Option Addr) (pn pc nx : Nat) (md pf : Int) (ca : Option Addr) (cn cc : Nat) (ra : Option Addr) (rn rc : Nat) (ps cs : List Nat) (w : World) (hS : Said w) (ho : o < 256) (hnx : nx < 4294967296) (hmd : -1 ≤ md ∧ md < 4294967296) (hpf : -1 ≤ pf ∧ pf < 4294967296) (hcn : cs.length = cn) (hcl : cn ≤ 5000) (hcf : ∀ x ∈ cs, x < 4294967296) (hC : CRd w ca cs) (LL : List (Int × Int × List Nat)) (hLL : LL = [((64 : Int), (1 : Int), [o]), (64, 2, ps), (64, 3, b4 (nx : Int))] ++ (if md = -1 then [] else [(128, 4, b4 md)]) ++ (if pf = -1 then [] else [(64, 5, b4 pf)]) ++ (if 0 < cs.length then [(192, 8, encC cs)] else []))
    (KE : Hid (∀ W, Below w.heap.size w W → Calls Tryd.prog 49 #[.slice pa pn pc] W fun e w' => ∃ v, e = .returned v ∧ w'.ownsRow W.heap.size 5 1 v ps.length (bcells ps) ∧ Below W.heap.size W w')) :
    Calls Tryd.prog 21 #[.agg #[.int .i64 (o : Int), .slice pa pn pc, .int .u32 (nx : Int), .int .i64 md, .int .i64 pf, .slice ca cn cc, .slice ra rn rc]] w fun e w' => ∃ p n c, e = .returned (.slice p n c) ∧ OwnRaws w' w.heap.size (.slice p n c) LL ∧ n ≤ 6 ∧ Below w.heap.size w w' := by
  have HLL := hide hLL
  have HCF := hide hcf
  have HCR := hide hC
  clear hcf hC
  clear hLL
  have wo : IntKind.u8.wrap (o : Int) = (o : Int) := by rw [IntKind.wrap_u8]; omega
  generalize hpl : ps.length = pl at *
  go_enter Tryd.func21, Tryd.ntmps21
  go_upto_region 1 with fail
  obtain ⟨wb, hwb⟩ : ∃ wb, wb = w.alloc (.cells #[.int .i64 (o : Int), .slice pa pn pc, .int .u32 (nx : Int), .int .i64 md, .int .i64 pf, .slice ca cn cc, .slice ra rn rc] 27) := ⟨_, rfl⟩
  have HBb : Hid (Below w.heap.size w wb) := by show Below _ _ _; rw [hwb]; exact (Below.refl _ _).alloc (Nat.le_refl _) _
  have hPb : w.heap.size < wb.heap.size := by rw [hwb]; simp
  have s0 : wb.cell? ⟨w.heap.size, 0, none⟩ = some (.int .i64 (o : Int)) := by rw [hwb]; simp [go_sem]
  have s1 : wb.cell? ⟨w.heap.size, 1, none⟩ = some (.slice pa pn pc) := by rw [hwb]; simp [go_sem]
  have s2 : wb.cell? ⟨w.heap.size, 2, none⟩ = some (.int .u32 (nx : Int)) := by rw [hwb]; simp [go_sem]
  have s3 : wb.cell? ⟨w.heap.size, 3, none⟩ = some (.int .i64 md) := by rw [hwb]; simp [go_sem]
  have s4 : wb.cell? ⟨w.heap.size, 4, none⟩ = some (.int .i64 pf) := by rw [hwb]; simp [go_sem]
  have s5 : wb.cell? ⟨w.heap.size, 5, none⟩ = some (.slice ca cn cc) := by rw [hwb]; simp [go_sem]
  rw [← hwb]
  have hSb : Said wb := hS.below HBb.out
  have HSB : Hid (∀ X, Below wb.heap.size wb X → X.cell? ⟨w.heap.size, 0, none⟩ = some (.int .i64 (o : Int)) ∧ X.cell? ⟨w.heap.size, 1, none⟩ = some (.slice pa pn pc) ∧ X.cell? ⟨w.heap.size, 2, none⟩ = some (.int .u32 (nx : Int))) := fun X hb => ⟨by rw [hb.cell (p := ⟨w.heap.size, 0, none⟩) hPb]; exact s0, by rw [hb.cell (p := ⟨w.heap.size, 1, none⟩) hPb]; exact s1, by rw [hb.cell (p := ⟨w.heap.size, 2, none⟩) hPb]; exact s2⟩
  have K1 : Hid (∀ W, Below wb.heap.size wb W → ∀ ad, W.ownsRow wb.heap.size 5 1 (.slice (some ad) 1 1) 1 (bcells [o]) → Calls Tryd.prog 48 #[.int .i64 1, .slice (some ad) 1 1] W fun e w' => e = .returned (.agg #[.int .i64 64, .int .i64 1, .slice (some ad) 1 1]) ∧ w'.ownsRow wb.heap.size 5 1 (.slice (some ad) 1 1) 1 (bcells [o]) ∧ Below W.heap.size W w' ∧ Below wb.heap.size wb w') := fun W hb ad h1 => (told_rows 1 (by omega) (by omega) wb hSb W hb (some ad) 1 1).mono fun _ _ h9 => ⟨h9.1, own_later h1 h9.2.1, h9.2⟩
  have K2 : Hid (∀ W, Below wb.heap.size wb W → ∀ v1, W.ownsRow wb.heap.size 5 1 v1 1 (bcells [o]) → Calls Tryd.prog 49 #[.slice pa pn pc] W fun e w' => ∃ a2 c2, e = .returned (.slice a2 pl c2) ∧ w'.ownsRow wb.heap.size 5 1 v1 1 (bcells [o]) ∧ w'.ownsRow wb.heap.size 5 1 (.slice a2 pl c2) pl (bcells ps) ∧ (∀ H x, W.cell? ⟨H, 0, none⟩ = some x → w'.cell? ⟨H, 0, none⟩ = some x) ∧ Below wb.heap.size wb w') := fun W hb v1 h1 => (KE.out W (HBb.out.trans (hb.mono HBb.out.size))).mono fun e w' h9 => by
    obtain ⟨v, he, ho9, hb9⟩ := h9
    obtain ⟨a2, c2, rfl⟩ := own_shape ho9
    exact ⟨a2, c2, he, own_later h1 hb9, own_base ho9 hb.size, fun H x hx => by rw [hb9.cell (p := ⟨H, 0, none⟩) (World.block_lt_of_cell? _ _ hx)]; exact hx, hb.trans (hb9.mono hb.size)⟩
  have K3 : Hid (∀ W, Below wb.heap.size wb W → ∀ v1, W.ownsRow wb.heap.size 5 1 v1 1 (bcells [o]) → ∀ a2 c2, W.ownsRow wb.heap.size 5 1 (.slice a2 pl c2) pl (bcells ps) → Calls Tryd.prog 48 #[.int .i64 2, .slice a2 pl c2] W fun e w' => e = .returned (.agg #[.int .i64 64, .int .i64 2, .slice a2 pl c2]) ∧ w'.ownsRow wb.heap.size 5 1 v1 1 (bcells [o]) ∧ w'.ownsRow wb.heap.size 5 1 (.slice a2 pl c2) pl (bcells ps) ∧ (∀ H x, W.cell? ⟨H, 0, none⟩ = some x → w'.cell? ⟨H, 0, none⟩ = some x) ∧ Below wb.heap.size wb w') := fun W hb v1 h1 a2 c2 h2 => (told_rows 2 (by omega) (by omega) wb hSb W hb a2 pl c2).mono fun _ _ h9 => ⟨h9.1, own_later h1 h9.2.1, own_later h2 h9.2.1, fun H x hx => by rw [h9.2.1.cell (p := ⟨H, 0, none⟩) (World.block_lt_of_cell? _ _ hx)]; exact hx, h9.2.2⟩
  have K4 : Hid (∀ W, Below wb.heap.size wb W → ∀ H, W.cell? ⟨H, 0, none⟩ = some (.int .u32 (nx : Int)) → ∀ v1, W.ownsRow wb.heap.size 5 1 v1 1 (bcells [o]) → ∀ v2, W.ownsRow wb.heap.size 5 1 v2 pl (bcells ps) → Calls Tryd.prog 50 #[.slice (some ⟨H, 0, none⟩) 1 1] W fun e w' => ∃ a3 c3, e = .returned (.slice a3 4 c3) ∧ w'.ownsRow wb.heap.size 5 1 v1 1 (bcells [o]) ∧ w'.ownsRow wb.heap.size 5 1 v2 pl (bcells ps) ∧ w'.ownsRow wb.heap.size 5 1 (.slice a3 4 c3) 4 (bcells (b4 (nx : Int))) ∧ Below wb.heap.size wb w') := fun W hb H hc v1 h1 v2 h2 => (bytes_one nx hnx wb W hb H hc).mono fun e w' h9 => by
    obtain ⟨a9, c9, he, ho9, hb9, hb10⟩ := h9
    exact ⟨a9, c9, he, own_later h1 hb9, own_later h2 hb9, ho9, hb10⟩
  have K5 : Hid (∀ W, Below wb.heap.size wb W → ∀ v1, W.ownsRow wb.heap.size 5 1 v1 1 (bcells [o]) → ∀ v2, W.ownsRow wb.heap.size 5 1 v2 pl (bcells ps) → ∀ a3 c3, W.ownsRow wb.heap.size 5 1 (.slice a3 4 c3) 4 (bcells (b4 (nx : Int))) → Calls Tryd.prog 48 #[.int .i64 3, .slice a3 4 c3] W fun e w' => e = .returned (.agg #[.int .i64 64, .int .i64 3, .slice a3 4 c3]) ∧ w'.ownsRow wb.heap.size 5 1 v1 1 (bcells [o]) ∧ w'.ownsRow wb.heap.size 5 1 v2 pl (bcells ps) ∧ w'.ownsRow wb.heap.size 5 1 (.slice a3 4 c3) 4 (bcells (b4 (nx : Int))) ∧ Below wb.heap.size wb w') := fun W hb v1 h1 v2 h2 a3 c3 h3 => (told_rows 3 (by omega) (by omega) wb hSb W hb a3 4 c3).mono fun _ _ h9 => ⟨h9.1, own_later h1 h9.2.1, own_later h2 h9.2.1, own_later h3 h9.2.1, h9.2.2⟩
  clear hSb hwb
  have br : Below wb.heap.size wb wb := Below.refl _ _
  have bd : Below wb.heap.size wb wb.drew := br.drew
  have ba : Below wb.heap.size wb ((wb.alloc (.cells #[.int .u8 (o : Int)] 5)).drew) := (below_alloc br _).drew
  have bb : Below wb.heap.size wb (((wb.alloc (.cells #[.int .u8 (o : Int)] 5)).alloc (.cells #[.int .u32 (nx : Int)] 23)).drew) := (below_alloc (below_alloc br _) _).drew
  have bc0 : Below wb.heap.size wb ((wb.alloc (.cells #[.int .u32 (nx : Int)] 23)).drew) := (below_alloc br _).drew
  have bc : Below wb.heap.size wb (((wb.alloc (.cells #[.int .u32 (nx : Int)] 23)).alloc (.cells #[.int .u8 (o : Int)] 5)).drew) := (below_alloc (below_alloc br _) _).drew
  have oa0 : World.ownsRow (wb.alloc (.cells #[.int .u8 (o : Int)] 5)) wb.heap.size 5 1 (.slice (some ⟨wb.heap.size, 0, none⟩) 1 1) 1 (bcells [o]) := own_byte br o
  have oa : World.ownsRow ((wb.alloc (.cells #[.int .u8 (o : Int)] 5)).drew) wb.heap.size 5 1 (.slice (some ⟨wb.heap.size, 0, none⟩) 1 1) 1 (bcells [o]) := oa0.drew
  have ob : World.ownsRow (((wb.alloc (.cells #[.int .u8 (o : Int)] 5)).alloc (.cells #[.int .u32 (nx : Int)] 23)).drew) wb.heap.size 5 1 (.slice (some ⟨wb.heap.size, 0, none⟩) 1 1) 1 (bcells [o]) := (oa0.alloc _).drew
  have oc : World.ownsRow (((wb.alloc (.cells #[.int .u32 (nx : Int)] 23)).alloc (.cells #[.int .u8 (o : Int)] 5)).drew) wb.heap.size 5 1 (.slice (some ⟨wb.heap.size + 1, 0, none⟩) 1 1) 1 (bcells [o]) := by
    have h9 := own_byte (below_alloc br (.cells #[.int .u32 (nx : Int)] 23)) o
    have e9 : (wb.alloc (.cells #[.int .u32 (nx : Int)] 23)).heap.size = wb.heap.size + 1 := by simp
    rw [e9] at h9
    exact h9.drew
  have cb0 : ((wb.alloc (.cells #[.int .u8 (o : Int)] 5)).alloc (.cells #[.int .u32 (nx : Int)] 23)).cell? ⟨wb.heap.size + 1, 0, none⟩ = some (.int .u32 (nx : Int)) := by
    have e9 : (wb.alloc (.cells #[.int .u8 (o : Int)] 5)).heap.size = wb.heap.size + 1 := by simp
    rw [← e9, World.cell?_alloc_mark]
    rfl
  have cb : (((wb.alloc (.cells #[.int .u8 (o : Int)] 5)).alloc (.cells #[.int .u32 (nx : Int)] 23)).drew).cell? ⟨wb.heap.size + 1, 0, none⟩ = some (.int .u32 (nx : Int)) := by rw [World.cell?_drew]; exact cb0
  have cc0 : (wb.alloc (.cells #[.int .u32 (nx : Int)] 23)).cell? ⟨wb.heap.size, 0, none⟩ = some (.int .u32 (nx : Int)) := by
    rw [World.cell?_alloc_mark]
    rfl
  have ccc : (((wb.alloc (.cells #[.int .u32 (nx : Int)] 23)).alloc (.cells #[.int .u8 (o : Int)] 5)).drew).cell? ⟨wb.heap.size, 0, none⟩ = some (.int .u32 (nx : Int)) := by
    rw [World.cell?_drew, World.cell?_alloc_old _ _ _ (by simp)]
    exact cc0
  have K1a : Hid (Calls Tryd.prog 48 #[.int .i64 1, .slice (some ⟨wb.heap.size, 0, none⟩) 1 1] ((wb.alloc (.cells #[.int .u8 (o : Int)] 5)).drew) fun e w' => e = .returned (.agg #[.int .i64 64, .int .i64 1, .slice (some ⟨wb.heap.size, 0, none⟩) 1 1]) ∧ w'.ownsRow wb.heap.size 5 1 (.slice (some ⟨wb.heap.size, 0, none⟩) 1 1) 1 (bcells [o]) ∧ Below wb.heap.size wb w') := (K1.out _ ba _ oa).mono fun _ _ h9 => ⟨h9.1, h9.2.1, h9.2.2.2⟩
  have K1b : Hid (Calls Tryd.prog 48 #[.int .i64 1, .slice (some ⟨wb.heap.size, 0, none⟩) 1 1] (((wb.alloc (.cells #[.int .u8 (o : Int)] 5)).alloc (.cells #[.int .u32 (nx : Int)] 23)).drew) fun e w' => e = .returned (.agg #[.int .i64 64, .int .i64 1, .slice (some ⟨wb.heap.size, 0, none⟩) 1 1]) ∧ w'.ownsRow wb.heap.size 5 1 (.slice (some ⟨wb.heap.size, 0, none⟩) 1 1) 1 (bcells [o]) ∧ Below wb.heap.size wb w' ∧ w'.cell? ⟨wb.heap.size + 1, 0, none⟩ = some (.int .u32 (nx : Int))) := (K1.out _ bb _ ob).mono fun _ _ h9 => ⟨h9.1, h9.2.1, h9.2.2.2, by rw [h9.2.2.1.cell (p := ⟨wb.heap.size + 1, 0, none⟩) (World.block_lt_of_cell? _ _ cb)]; exact cb⟩
  have K1c : Hid (Calls Tryd.prog 48 #[.int .i64 1, .slice (some ⟨wb.heap.size + 1, 0, none⟩) 1 1] (((wb.alloc (.cells #[.int .u32 (nx : Int)] 23)).alloc (.cells #[.int .u8 (o : Int)] 5)).drew) fun e w' => e = .returned (.agg #[.int .i64 64, .int .i64 1, .slice (some ⟨wb.heap.size + 1, 0, none⟩) 1 1]) ∧ w'.ownsRow wb.heap.size 5 1 (.slice (some ⟨wb.heap.size + 1, 0, none⟩) 1 1) 1 (bcells [o]) ∧ Below wb.heap.size wb w' ∧ w'.cell? ⟨wb.heap.size, 0, none⟩ = some (.int .u32 (nx : Int))) := (K1.out _ bc _ oc).mono fun _ _ h9 => ⟨h9.1, h9.2.1, h9.2.2.2, by rw [h9.2.2.1.cell (p := ⟨wb.heap.size, 0, none⟩) (World.block_lt_of_cell? _ _ ccc)]; exact ccc⟩
  have cal : ∀ X : World, (X.alloc (.cells #[.int .u32 (nx : Int)] 23)).cell? ⟨X.heap.size, 0, none⟩ = some (.int .u32 (nx : Int)) := fun X => by rw [World.cell?_alloc_mark]; rfl
  have HSd := hide (HSB.out _ bd)
  have HSa := hide (HSB.out _ ba)
  have HSb := hide (HSB.out _ bb)
  have HSc0 := hide (HSB.out _ bc0)
  have HSc := hide (HSB.out _ bc)
  have CAL := hide cal
  clear br bd ba bb bc0 bc oa0 oa ob oc cb0 cb cc0 ccc K1 cal
  go_cut [3] (fun v wq => ∃ p c, v = .slice p 3 c ∧ Hid (OwnRaws wq wb.heap.size (.slice p 3 c) [((64 : Int), (1 : Int), [o]), (64, 2, ps), (64, 3, b4 (nx : Int))]) ∧ Hid (Below wb.heap.size wb wq))
  case first =>
    go_region_held3 (fun w' => w'.cell? ⟨w.heap.size, 0, none⟩ = some (.int .i64 (o : Int)) ∧ w'.cell? ⟨w.heap.size, 1, none⟩ = some (.slice pa pn pc) ∧ w'.cell? ⟨w.heap.size, 2, none⟩ = some (.int .u32 (nx : Int)))
      (with_reducible first | exact HSd.out | exact HSa.out | exact HSb.out | exact HSc0.out | exact HSc.out | exact HS1.out | exact HS1c.out | exact HS2.out | exact HS2c.out | exact HS3.out | exact HS3c.out | exact HS4.out | exact HS5.out | exact HS5a.out _ | fail)
      (first
        | (go_at_call 48
           first
             | (with_reducible refine K1a.out.mono ?_
                rintro e w1 ⟨rfl, ho1, hbw1⟩)
             | (with_reducible refine K1b.out.mono ?_
                rintro e w1 ⟨rfl, ho1, hbw1, hc1⟩
                have HCb := hide hc1
                clear hc1)
             | (with_reducible refine K1c.out.mono ?_
                rintro e w1 ⟨rfl, ho1, hbw1, hc1⟩
                have HCc := hide hc1
                clear hc1)
           have HL1 := hide hbw1
           have HO1 := hide ho1
           have HS1 := hide (HSB.out _ hbw1)
           have HL1c := hide (below_alloc hbw1 (.cells #[.int .u32 (nx : Int)] 23))
           have HO1c := hide (ho1.alloc (.cells #[.int .u32 (nx : Int)] 23))
           have HS1c := hide (HSB.out _ HL1c.out)
           clear ho1 hbw1)
        | (go_at_call 49
           first
             | (with_reducible refine (K2.out _ HL1.out _ HO1.out).mono ?_
                rintro e w2 ⟨a2, c2, rfl, ho1, ho2, hp2, hbw2⟩
                try have HCb2 := hide (hp2 _ _ HCb.out)
                try have HCc2 := hide (hp2 _ _ HCc.out))
             | (with_reducible refine (K2.out _ HL1c.out _ HO1c.out).mono ?_
                rintro e w2 ⟨a2, c2, rfl, ho1, ho2, hp2, hbw2⟩
                have HCd2 := hide (hp2 _ _ (CAL.out w1)))
           have HL2 := hide hbw2
           have HO21 := hide ho1
           have HO22 := hide ho2
           have HS2 := hide (HSB.out _ hbw2)
           have HL2c := hide (below_alloc hbw2 (.cells #[.int .u32 (nx : Int)] 23))
           have HO21c := hide (ho1.alloc (.cells #[.int .u32 (nx : Int)] 23))
           have HO22c := hide (ho2.alloc (.cells #[.int .u32 (nx : Int)] 23))
           have HS2c := hide (HSB.out _ HL2c.out)
           clear ho1 ho2 hp2 hbw2)
        | (go_at_call 48
           first
             | (with_reducible refine (K3.out _ HL2.out _ HO21.out _ _ HO22.out).mono ?_
                rintro e w3 ⟨rfl, ho1, ho2, hp3, hbw3⟩
                try have HCb3 := hide (hp3 _ _ HCb2.out)
                try have HCc3 := hide (hp3 _ _ HCc2.out)
                try have HCd3 := hide (hp3 _ _ HCd2.out))
             | (with_reducible refine (K3.out _ HL2c.out _ HO21c.out _ _ HO22c.out).mono ?_
                rintro e w3 ⟨rfl, ho1, ho2, hp3, hbw3⟩
                have HCe3 := hide (hp3 _ _ (CAL.out w2)))
           have HL3 := hide hbw3
           have HO31 := hide ho1
           have HO32 := hide ho2
           have HS3 := hide (HSB.out _ hbw3)
           have HL3c := hide (below_alloc hbw3 (.cells #[.int .u32 (nx : Int)] 23))
           have HO31c := hide (ho1.alloc (.cells #[.int .u32 (nx : Int)] 23))
           have HO32c := hide (ho2.alloc (.cells #[.int .u32 (nx : Int)] 23))
           have HS3c := hide (HSB.out _ HL3c.out)
           clear ho1 ho2 hp3 hbw3)
        | (go_at_call 50
           with_reducible first
             | refine (K4.out _ HL3.out _ HCb3.out _ HO31.out _ HO32.out).mono ?_
             | refine (K4.out _ HL3.out _ HCc3.out _ HO31.out _ HO32.out).mono ?_
             | refine (K4.out _ HL3.out _ HCd3.out _ HO31.out _ HO32.out).mono ?_
             | refine (K4.out _ HL3.out _ HCe3.out _ HO31.out _ HO32.out).mono ?_
             | refine (K4.out _ HL3c.out _ (CAL.out w3) _ HO31c.out _ HO32c.out).mono ?_
           rintro e w4 ⟨a3, c3, rfl, ho1, ho2, ho3, hbw4⟩
           have HL4 := hide hbw4
           have HO41 := hide ho1
           have HO42 := hide ho2
           have HO43 := hide ho3
           have HS4 := hide (HSB.out _ hbw4)
           clear ho1 ho2 ho3 hbw4)
        | (go_at_call 48
           with_reducible refine (K5.out _ HL4.out _ HO41.out _ HO42.out _ _ HO43.out).mono ?_
           rintro e w5 ⟨rfl, ho1, ho2, ho3, hbw5⟩
           have HL5 := hide hbw5
           have HO51 := hide ho1
           have HO52 := hide ho2
           have HO53 := hide ho3
           have HS5 := hide (HSB.out _ hbw5)
           have HS5a := hide (fun ob => HSB.out _ (below_alloc hbw5 ob))
           clear ho1 ho2 ho3 hbw5))
    all_goals go_wp2_with fail
    all_goals go_meet
    all_goals exact ⟨_, _, rfl, own_three hpl HL5.out.size HO51.out HO52.out HO53.out, below_alloc HL5.out _⟩
  case rest =>
    obtain ⟨p3, c3, rfl, HO9, HB9⟩ := hcut
    clear K2 K3 K4 K5 HSd HSa HSb HSc0 HSc HSB K1a K1b K1c CAL
    have HSw := hide (hS.below HBb.out)
    have HN9 : Hid (([((64 : Int), (1 : Int), [o]), (64, 2, ps), (64, 3, b4 (nx : Int))] : List (Int × Int × List Nat)).length = 3) := rfl
    generalize [((64 : Int), (1 : Int), [o]), (64, 2, ps), (64, 3, b4 (nx : Int))] = L3 at *
    obtain ⟨wd, hwd⟩ : ∃ wd : World, wd = wc := ⟨wc, rfl⟩
    subst hwd
    have z3 : wd.cell? ⟨w.heap.size, 3, none⟩ = some (.int .i64 md) := by rw [HB9.out.cell (p := ⟨w.heap.size, 3, none⟩) hPb]; exact s3
    go_upto_if 21 with fail
    go_cut [3] (fun v wq => ∃ p c n, v = .slice p n c ∧ Hid ((L3 ++ (if md = -1 then [] else [((128 : Int), (4 : Int), b4 md)])).length = n) ∧ Hid (OwnRaws wq wb.heap.size (.slice p n c) (L3 ++ (if md = -1 then [] else [((128 : Int), (4 : Int), b4 md)]))) ∧ Hid (Below wb.heap.size wb wq))
    case first =>
      by_cases hz : md = -1
      · have HIF : Hid (L3 ++ (if md = -1 then [] else [((128 : Int), (4 : Int), b4 md)]) = L3) := by show _ ++ _ = _; rw [if_pos hz, List.append_nil]
        have hzf : (md != -1) = false := by simp [hz]
        go_wp2_with fail
        go_meet
        exact ⟨_, _, _, rfl, by show _ = _; rw [HIF.out]; exact HN9.out, by show OwnRaws _ _ _ _; rw [HIF.out]; exact HO9.out, HB9⟩
      · have HIF : Hid (L3 ++ (if md = -1 then [] else [((128 : Int), (4 : Int), b4 md)]) = L3 ++ [((128 : Int), (4 : Int), b4 md)]) := by show _ ++ _ = _ ++ _; rw [if_neg hz]
        obtain ⟨m0, hm0⟩ := Int.eq_ofNat_of_zero_le (by omega : 0 ≤ md)
        have hzt : (md != -1) = true := by simp [hz]
        have hw : IntKind.u32.wrap md = md := by rw [IntKind.wrap_u32]; omega
        have K6 := hide (add_num 4 (by omega) (by omega) 128 4 rfl rfl wb HSw.out wd HB9.out HO9.out HN9.out (by omega) m0 (by omega))
        rw [← hm0] at K6
        clear hm0
        go_wp2_with fail
        refine K6.out.mono ?_
        rintro e w6 ⟨a6, c6, rfl, h6⟩
        have K7 := hide h6
        clear h6
        go_wp2_with fail
        refine K7.out.mono ?_
        rintro e w7 ⟨p7, c7, w8, rfl, hr8, ho8, hb8⟩
        have HR8 := hide hr8
        have HO8 := hide ho8
        have HB8 := hide hb8
        clear hr8 ho8 hb8
        go_wp2_with (refine kept_appendR_intro _ _ (.slice p3 3 c3) (.slice (some ⟨w7.heap.size, 0, none⟩) 1 1) (.slice p7 (3 + 1) c7) (w' := w8) (by rfl) (by rfl) (by exact HR8.out) ?_)
        go_meet
        exact ⟨_, _, _, rfl, by show _ = _; rw [HIF.out, List.length_append, HN9.out]; rfl, by show OwnRaws _ _ _ _; rw [HIF.out]; exact HO8.out, HB8⟩
    case rest =>
      obtain ⟨p4, c4, n4, rfl, HN4, HO4, HB4⟩ := hcut
      have hn4 : n4 ≤ 4 := by
        have h9 := HN4.out
        rw [List.length_append, HN9.out] at h9
        split at h9 <;> simp at h9 <;> omega
      generalize hL4 : L3 ++ (if md = -1 then [] else [((128 : Int), (4 : Int), b4 md)]) = L4 at *
      have HL4 := hide hL4
      clear hL4 HO9 HB9 z3
      obtain ⟨we, hwe⟩ : ∃ we : World, we = wc := ⟨wc, rfl⟩
      subst hwe
      have z4 : we.cell? ⟨w.heap.size, 4, none⟩ = some (.int .i64 pf) := by rw [HB4.out.cell (p := ⟨w.heap.size, 4, none⟩) hPb]; exact s4
      go_upto_if 33 with fail
      go_cut [3] (fun v wq => ∃ p c n, v = .slice p n c ∧ Hid ((L4 ++ (if pf = -1 then [] else [((64 : Int), (5 : Int), b4 pf)])).length = n) ∧ Hid (OwnRaws wq wb.heap.size (.slice p n c) (L4 ++ (if pf = -1 then [] else [((64 : Int), (5 : Int), b4 pf)]))) ∧ Hid (Below wb.heap.size wb wq))
      case first =>
        by_cases hz : pf = -1
        · have HIF : Hid (L4 ++ (if pf = -1 then [] else [((64 : Int), (5 : Int), b4 pf)]) = L4) := by show _ ++ _ = _; rw [if_pos hz, List.append_nil]
          have hzf : (pf != -1) = false := by simp [hz]
          go_wp2_with fail
          go_meet
          exact ⟨_, _, _, rfl, by show _ = _; rw [HIF.out]; exact HN4.out, by show OwnRaws _ _ _ _; rw [HIF.out]; exact HO4.out, HB4⟩
        · have HIF : Hid (L4 ++ (if pf = -1 then [] else [((64 : Int), (5 : Int), b4 pf)]) = L4 ++ [((64 : Int), (5 : Int), b4 pf)]) := by show _ ++ _ = _ ++ _; rw [if_neg hz]
          obtain ⟨m0, hm0⟩ := Int.eq_ofNat_of_zero_le (by omega : 0 ≤ pf)
          have hzt : (pf != -1) = true := by simp [hz]
          have hw : IntKind.u32.wrap pf = pf := by rw [IntKind.wrap_u32]; omega
          have K6 := hide (add_num 5 (by omega) (by omega) 64 5 rfl rfl wb HSw.out we HB4.out HO4.out HN4.out (by omega) m0 (by omega))
          rw [← hm0] at K6
          clear hm0
          go_wp2_with fail
          refine K6.out.mono ?_
          rintro e w6 ⟨a6, c6, rfl, h6⟩
          have K7 := hide h6
          clear h6
          go_wp2_with fail
          refine K7.out.mono ?_
          rintro e w7 ⟨p7, c7, w8, rfl, hr8, ho8, hb8⟩
          have HR8 := hide hr8
          have HO8 := hide ho8
          have HB8 := hide hb8
          clear hr8 ho8 hb8
          go_wp2_with (refine kept_appendR_intro _ _ (.slice p4 n4 c4) (.slice (some ⟨w7.heap.size, 0, none⟩) 1 1) (.slice p7 (n4 + 1) c7) (w' := w8) (by rfl) (by rfl) (by exact HR8.out) ?_)
          go_meet
          exact ⟨_, _, _, rfl, by show _ = _; rw [HIF.out, List.length_append, HN4.out]; rfl, by show OwnRaws _ _ _ _; rw [HIF.out]; exact HO8.out, HB8⟩
      case rest =>
        obtain ⟨p5, c5, n5, rfl, HN5, HO5, HB5⟩ := hcut
        have hn5 : n5 ≤ 5 := by
          have h9 := HN5.out
          rw [List.length_append, HN4.out] at h9
          split at h9 <;> simp at h9 <;> omega
        generalize hL5 : L4 ++ (if pf = -1 then [] else [((64 : Int), (5 : Int), b4 pf)]) = L5 at *
        have HL5 := hide hL5
        clear hL5 HO4 HB4 z4
        obtain ⟨wf, hwf⟩ : ∃ wf : World, wf = wc := ⟨wc, rfl⟩
        subst hwf
        have z5 : wf.cell? ⟨w.heap.size, 5, none⟩ = some (.slice ca cn cc) := by rw [HB5.out.cell (p := ⟨w.heap.size, 5, none⟩) hPb]; exact s5
        have HE : Hid (LL = L5 ++ (if 0 < cs.length then [((192 : Int), (8 : Int), encC cs)] else [])) := by show _ = _; exact HLL.out
        have HBF : Hid (Below w.heap.size w wf) := HBb.out.trans (HB5.out.mono HBb.out.size)
        have HWW := hide (Nat.le_of_lt hPb)
        by_cases hz : 0 < cn
        · have HIF : Hid (LL = L5 ++ [((192 : Int), (8 : Int), encC cs)]) := by show _ = _ ++ _; rw [HE.out, if_pos (by omega)]
          have hzt : decide ((cn : Int) > 0) = true := decide_eq_true (by omega)
          have K6 := hide (add_comms wb HSw.out wf HB5.out HO5.out HN5.out (by omega) ca cc cs cn (4 * cn) hcn rfl hz hcl HCF.out (HCR.out.below HBF.out))
          generalize hm4 : 4 * cn = m4 at K6
          clear hm4
          go_wp2_with fail
          refine K6.out.mono ?_
          rintro e w6 ⟨a6, c6, rfl, h6⟩
          have K7 := hide h6
          clear h6
          go_wp2_with fail
          refine K7.out.mono ?_
          rintro e w7 ⟨p7, c7, w8, rfl, hr8, ho8, hb8⟩
          have HR8 := hide hr8
          have HO8 := hide ho8
          have HB8 := hide hb8
          clear hr8 ho8 hb8
          go_wp2_with (refine kept_appendR_intro _ _ (.slice p5 n5 c5) (.slice (some ⟨w7.heap.size, 0, none⟩) 1 1) (.slice p7 (n5 + 1) c7) (w' := w8) (by rfl) (by rfl) (by exact HR8.out) ?_)
          go_ret
          exact ⟨_, _, _, rfl, by rw [HIF.out]; exact HO8.out.base HWW.out, by omega, HBb.out.trans (HB8.out.mono HBb.out.size)⟩
        · have HIF : Hid (LL = L5) := by show _ = _; rw [HE.out, if_neg (by omega), List.append_nil]
          have hzf : decide ((cn : Int) > 0) = false := decide_eq_false (by omega)
          go_wp2_with fail
          go_ret
          exact ⟨_, _, _, rfl, by rw [HIF.out]; exact HO5.out.base HWW.out, by omega, HBF.out⟩
end
end Go.Proofs.YtempaadgheondaaDoor
