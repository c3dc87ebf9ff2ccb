/- Two rows that grow side by side: numbers, and slices of bytes. -/
import Derived.Test.YtempaadgheondaaDoorHOne
namespace Go.Proofs.YtempaadgheondaaDoor
open Go.RowKit
set_option maxRecDepth 100000

theorem Tryd.infoByteS : (Tryd.prog.info? 30).map (fun i => (i.zero, i.size, i.bytes)) = some (some (.slice none 0 0), 1, 24) := by kernel_rfl
theorem elemBytes : Elem 40 30 1 24 := by
  obtain ⟨i, h1, h2, h3, h4⟩ := info_parts Tryd.infoByteS
  exact ⟨Tryd.underlying40, ⟨i, _, h1, h2, h3, h4, rfl⟩, by omega, by omega⟩
/-- One more number, which lies at block g; the other row stays, and all blocks that are no row. -/
theorem app_i {W : World} {B : Nat} {t v : Value} {n m : Nat} {ts : List Int} {cs : List Value} (ht : W.ownsRow B 3 1 t n (icells ts)) (hv : W.ownsRow B 30 1 v m cs) (hB : B ≤ W.heap.size) (hl : n ≤ 20000) (g : Nat) (z : Int) (hc : W.cell? ⟨g, 0, none⟩ = some (.int .i64 z)) :
    ∃ t' W', (Builtin.append_ #[44, 44] 44 #[t, .slice (some ⟨g, 0, none⟩) 1 1]).run Tryd.prog W = .ok t' W' ∧ W'.ownsRow B 3 1 t' (n + 1) (icells (ts ++ [z])) ∧ W'.ownsRow B 30 1 v m cs ∧ Below B W W' ∧ ∀ X, X < W.heap.size → t.ownBlock ≠ some X → W'.heap[X]? = W.heap[X]? := by
  obtain ⟨t', W', hr, h2, h3, h4, _⟩ := app_more elemInt ht hB ⟨g, 0, none⟩ 1 1 (icells [z]) rfl (fun j u hu => by
    match j, hu with
    | 0, hu => simp [icells] at hu; subst hu; simpa [Addr.add] using hc
    | j + 1, hu => simp [icells] at hu) (icells_one _) (by omega)
  exact ⟨t', W', hr, by rw [icells_app]; exact h2, own_grown hv h4 (fun b hb => own_apart hv ht (by decide) b hb), h3, fun X hX hne => h4.block X hX (Ne.symm hne)⟩
theorem app_s {W : World} {B : Nat} {t v : Value} {n m : Nat} {ts : List Int} {cs : List Value} (ht : W.ownsRow B 3 1 t n (icells ts)) (hv : W.ownsRow B 30 1 v m cs) (hB : B ≤ W.heap.size) (hl : m ≤ 20000) (g : Nat) (a : Option Addr) (l c : Nat) (hc : W.cell? ⟨g, 0, none⟩ = some (.slice a l c)) :
    ∃ v' W', (Builtin.append_ #[40, 40] 40 #[v, .slice (some ⟨g, 0, none⟩) 1 1]).run Tryd.prog W = .ok v' W' ∧ W'.ownsRow B 3 1 t n (icells ts) ∧ W'.ownsRow B 30 1 v' (m + 1) (cs ++ [.slice a l c]) ∧ Below B W W' ∧ ∀ X, X < W.heap.size → v.ownBlock ≠ some X → W'.heap[X]? = W.heap[X]? := by
  obtain ⟨v', W', hr, h2, h3, h4, _⟩ := app_more elemBytes hv hB ⟨g, 0, none⟩ 1 1 [.slice a l c] rfl (fun j u hu => by
    match j, hu with
    | 0, hu => simp at hu; subst hu; simpa [Addr.add] using hc
    | j + 1, hu => simp at hu) (fun u hu => by simp at hu; subst hu; rfl) (by omega)
  exact ⟨v', W', hr, own_grown ht h4 (fun b hb => own_apart ht hv (by decide) b hb), h2, h3, fun X hX hne => h4.block X hX (Ne.symm hne)⟩
/-- What is wanted at the end. -/
def End2 (B : Nat) (w1 w2 : World) (t v : Value) (n : Nat) (ts : List Int) (cs : List Value) : Prop := w2.ownsRow B 3 1 t n (icells ts) ∧ w2.ownsRow B 30 1 v n cs ∧ Below B w1 w2
section
variable {w : World} {B : Nat} {t v : Value} {n : Nat} {ts : List Int} {cs : List Value}
theorem six_1 (ht : w.ownsRow B 3 1 t n (icells ts)) (hv : w.ownsRow B 30 1 v n cs) (hB : B ≤ w.heap.size) (hl : n ≤ 10000) (z : Int) (a : Option Addr) (l c : Nat) :
    ∃ t1 w1, (Builtin.append_ #[44, 44] 44 #[t, .slice (some ⟨w.heap.size, 0, none⟩) 1 1]).run Tryd.prog (w.alloc (.cells #[.int .i64 z] 3)).drew = .ok t1 w1 ∧ Below B w w1 ∧
      ∃ v1 w2, (Builtin.append_ #[40, 40] 40 #[v, .slice (some ⟨w1.heap.size, 0, none⟩) 1 1]).run Tryd.prog (w1.alloc (.cells #[.slice a l c] 30)) = .ok v1 w2 ∧ End2 B w w2 t1 v1 (n + 1) (ts ++ [z]) (cs ++ [.slice a l c]) := by
  have hb0 : Below B w (w.alloc (.cells #[.int .i64 z] 3)).drew := ((Below.refl _ _).alloc hB _).drew
  obtain ⟨t1, w1, h1, h2, h3, h4, _⟩ := app_i ((ht.alloc (.cells #[.int .i64 z] 3)).drew) ((hv.alloc _).drew) (Nat.le_trans hB hb0.size) (by omega) w.heap.size z (by rw [World.cell?_drew, World.cell?_alloc_mark]; rfl)
  have hB1 : B ≤ w1.heap.size := Nat.le_trans (Nat.le_trans hB hb0.size) h4.size
  have hb1 : Below B w1 (w1.alloc (.cells #[.slice a l c] 30)) := (Below.refl _ _).alloc hB1 _
  obtain ⟨v1, w2, k1, k2, k3, k4, _⟩ := app_s (h2.alloc (.cells #[.slice a l c] 30)) (h3.alloc _) (Nat.le_trans hB1 hb1.size) (by omega) w1.heap.size a l c (by rw [World.cell?_alloc_mark]; rfl)
  exact ⟨t1, w1, h1, hb0.trans h4, v1, w2, k1, k2, k3, (hb0.trans h4).trans (hb1.trans k4)⟩
theorem six_6 (ht : w.ownsRow B 3 1 t n (icells ts)) (hv : w.ownsRow B 30 1 v n cs) (hB : B ≤ w.heap.size) (hl : n ≤ 10000) (z : Int) (a : Option Addr) (l c : Nat) :
    ∃ v1 w1, (Builtin.append_ #[40, 40] 40 #[v, .slice (some ⟨w.heap.size, 0, none⟩) 1 1]).run Tryd.prog (w.alloc (.cells #[.slice a l c] 30)).drew = .ok v1 w1 ∧ Below B w w1 ∧
      ∃ t1 w2, (Builtin.append_ #[44, 44] 44 #[t, .slice (some ⟨w1.heap.size, 0, none⟩) 1 1]).run Tryd.prog (w1.alloc (.cells #[.int .i64 z] 3)) = .ok t1 w2 ∧ End2 B w w2 t1 v1 (n + 1) (ts ++ [z]) (cs ++ [.slice a l c]) := by
  have hb0 : Below B w (w.alloc (.cells #[.slice a l c] 30)).drew := ((Below.refl _ _).alloc hB _).drew
  obtain ⟨v1, w1, h1, h2, h3, h4, _⟩ := app_s ((ht.alloc (.cells #[.slice a l c] 30)).drew) ((hv.alloc _).drew) (Nat.le_trans hB hb0.size) (by omega) w.heap.size a l c (by rw [World.cell?_drew, World.cell?_alloc_mark]; rfl)
  have hB1 : B ≤ w1.heap.size := Nat.le_trans (Nat.le_trans hB hb0.size) h4.size
  have hb1 : Below B w1 (w1.alloc (.cells #[.int .i64 z] 3)) := (Below.refl _ _).alloc hB1 _
  obtain ⟨t1, w2, k1, k2, k3, k4, _⟩ := app_i (h2.alloc (.cells #[.int .i64 z] 3)) (h3.alloc _) (Nat.le_trans hB1 hb1.size) (by omega) w1.heap.size z (by rw [World.cell?_alloc_mark]; rfl)
  exact ⟨v1, w1, h1, hb0.trans h4, t1, w2, k1, k2, k3, (hb0.trans h4).trans (hb1.trans k4)⟩
/-- Both are laid first, the number at gi, the slice at gs. -/
theorem six_in {W : World} {gi gs : Nat} (ht : W.ownsRow B 3 1 t n (icells ts)) (hv : W.ownsRow B 30 1 v n cs) (hB : B ≤ W.heap.size) (hbW : Below B w W) (hl : n ≤ 10000) (z : Int) (a : Option Addr) (l c : Nat) (hi : W.cell? ⟨gi, 0, none⟩ = some (.int .i64 z)) (hs : W.cell? ⟨gs, 0, none⟩ = some (.slice a l c)) (nt : t.ownBlock ≠ some gs) (nv : v.ownBlock ≠ some gi) :
    (∃ t1 w1, (Builtin.append_ #[44, 44] 44 #[t, .slice (some ⟨gi, 0, none⟩) 1 1]).run Tryd.prog W = .ok t1 w1 ∧ Below B w w1 ∧
      ∃ v1 w2, (Builtin.append_ #[40, 40] 40 #[v, .slice (some ⟨gs, 0, none⟩) 1 1]).run Tryd.prog w1 = .ok v1 w2 ∧ End2 B w w2 t1 v1 (n + 1) (ts ++ [z]) (cs ++ [.slice a l c])) ∧
    (∃ v1 w1, (Builtin.append_ #[40, 40] 40 #[v, .slice (some ⟨gs, 0, none⟩) 1 1]).run Tryd.prog W = .ok v1 w1 ∧ Below B w w1 ∧
      ∃ t1 w2, (Builtin.append_ #[44, 44] 44 #[t, .slice (some ⟨gi, 0, none⟩) 1 1]).run Tryd.prog w1 = .ok t1 w2 ∧ End2 B w w2 t1 v1 (n + 1) (ts ++ [z]) (cs ++ [.slice a l c])) := by
  have li := World.block_lt_of_cell? W _ hi
  have ls := World.block_lt_of_cell? W _ hs
  constructor
  · obtain ⟨t1, w1, h1, h2, h3, h4, h5⟩ := app_i ht hv hB (by omega) gi z hi
    obtain ⟨v1, w2, k1, k2, k3, k4, _⟩ := app_s h2 h3 (Nat.le_trans hB h4.size) (by omega) gs a l c (by rw [World.cell?_of_block (w := W) (h5 gs ls nt)]; exact hs)
    exact ⟨t1, w1, h1, hbW.trans h4, v1, w2, k1, k2, k3, hbW.trans (h4.trans k4)⟩
  · obtain ⟨v1, w1, h1, h2, h3, h4, h5⟩ := app_s ht hv hB (by omega) gs a l c hs
    obtain ⟨t1, w2, k1, k2, k3, k4, _⟩ := app_i h2 h3 (Nat.le_trans hB h4.size) (by omega) gi z (by rw [World.cell?_of_block (w := W) (h5 gi li nv)]; exact hi)
    exact ⟨v1, w1, h1, hbW.trans h4, t1, w2, k1, k2, k3, hbW.trans (h4.trans k4)⟩
/-- The number first. -/
theorem six_23 (ht : w.ownsRow B 3 1 t n (icells ts)) (hv : w.ownsRow B 30 1 v n cs) (hB : B ≤ w.heap.size) (hl : n ≤ 10000) (z : Int) (a : Option Addr) (l c : Nat) :
    (∃ t1 w1, (Builtin.append_ #[44, 44] 44 #[t, .slice (some ⟨w.heap.size, 0, none⟩) 1 1]).run Tryd.prog ((w.alloc (.cells #[.int .i64 z] 3)).alloc (.cells #[.slice a l c] 30)).drew = .ok t1 w1 ∧ Below B w w1 ∧
      ∃ v1 w2, (Builtin.append_ #[40, 40] 40 #[v, .slice (some ⟨w.heap.size + 1, 0, none⟩) 1 1]).run Tryd.prog w1 = .ok v1 w2 ∧ End2 B w w2 t1 v1 (n + 1) (ts ++ [z]) (cs ++ [.slice a l c])) ∧
    (∃ v1 w1, (Builtin.append_ #[40, 40] 40 #[v, .slice (some ⟨w.heap.size + 1, 0, none⟩) 1 1]).run Tryd.prog ((w.alloc (.cells #[.int .i64 z] 3)).alloc (.cells #[.slice a l c] 30)).drew = .ok v1 w1 ∧ Below B w w1 ∧
      ∃ t1 w2, (Builtin.append_ #[44, 44] 44 #[t, .slice (some ⟨w.heap.size, 0, none⟩) 1 1]).run Tryd.prog w1 = .ok t1 w2 ∧ End2 B w w2 t1 v1 (n + 1) (ts ++ [z]) (cs ++ [.slice a l c])) := by
  have hb0 : Below B w ((w.alloc (.cells #[.int .i64 z] 3)).alloc (.cells #[.slice a l c] 30)).drew := (((Below.refl _ _).alloc hB _).alloc (by simp; omega) _).drew
  have e1 := World.cell?_alloc_mark (w.alloc (.cells #[.int .i64 z] 3)) #[.slice a l c] 30 (0, 0) 0
  simp only [World.size_alloc] at e1
  refine six_in ((ht.alloc _).alloc _).drew ((hv.alloc _).alloc _).drew (Nat.le_trans hB hb0.size) hb0 hl z a l c ?_ ?_ (fun e => by have := (own_block ht _ e).2; omega) (fun e => by have := (own_block hv _ e).2; omega)
  · rw [World.cell?_drew, World.cell?_alloc_lt _ _ _ (by simp), World.cell?_alloc_mark]; rfl
  · rw [World.cell?_drew, e1]; rfl
/-- The slice first. -/
theorem six_45 (ht : w.ownsRow B 3 1 t n (icells ts)) (hv : w.ownsRow B 30 1 v n cs) (hB : B ≤ w.heap.size) (hl : n ≤ 10000) (z : Int) (a : Option Addr) (l c : Nat) :
    (∃ t1 w1, (Builtin.append_ #[44, 44] 44 #[t, .slice (some ⟨w.heap.size + 1, 0, none⟩) 1 1]).run Tryd.prog ((w.alloc (.cells #[.slice a l c] 30)).alloc (.cells #[.int .i64 z] 3)).drew = .ok t1 w1 ∧ Below B w w1 ∧
      ∃ v1 w2, (Builtin.append_ #[40, 40] 40 #[v, .slice (some ⟨w.heap.size, 0, none⟩) 1 1]).run Tryd.prog w1 = .ok v1 w2 ∧ End2 B w w2 t1 v1 (n + 1) (ts ++ [z]) (cs ++ [.slice a l c])) ∧
    (∃ v1 w1, (Builtin.append_ #[40, 40] 40 #[v, .slice (some ⟨w.heap.size, 0, none⟩) 1 1]).run Tryd.prog ((w.alloc (.cells #[.slice a l c] 30)).alloc (.cells #[.int .i64 z] 3)).drew = .ok v1 w1 ∧ Below B w w1 ∧
      ∃ t1 w2, (Builtin.append_ #[44, 44] 44 #[t, .slice (some ⟨w.heap.size + 1, 0, none⟩) 1 1]).run Tryd.prog w1 = .ok t1 w2 ∧ End2 B w w2 t1 v1 (n + 1) (ts ++ [z]) (cs ++ [.slice a l c])) := by
  have hb0 : Below B w ((w.alloc (.cells #[.slice a l c] 30)).alloc (.cells #[.int .i64 z] 3)).drew := (((Below.refl _ _).alloc hB _).alloc (by simp; omega) _).drew
  have e1 := World.cell?_alloc_mark (w.alloc (.cells #[.slice a l c] 30)) #[.int .i64 z] 3 (0, 0) 0
  simp only [World.size_alloc] at e1
  refine six_in ((ht.alloc _).alloc _).drew ((hv.alloc _).alloc _).drew (Nat.le_trans hB hb0.size) hb0 hl z a l c ?_ ?_ (fun e => by have := (own_block ht _ e).2; omega) (fun e => by have := (own_block hv _ e).2; omega)
  · rw [World.cell?_drew, e1]; rfl
  · rw [World.cell?_drew, World.cell?_alloc_lt _ _ _ (by simp), World.cell?_alloc_mark]; rfl
end
end Go.Proofs.YtempaadgheondaaDoor
