/- Questions: what they leave of places; rather. -/
import Derived.Test.YtolpaimmmhoiiaaDdC
import Derived.Laws.EntriesVeiled
namespace Go.Proofs.Ytolpaimmmhoiiaa
open Go.RowKit
set_option maxRecDepth 100000

/-- v is a question about N routes that leaves st of the places js. -/
def AsksJ (w : World) (v : Value) (N : Nat) (st : List Nat → List Nat) : Prop := ∃ f bnd caps, v = .func (.func f) bnd caps ∧ (∀ args w, (callFunc f args).run Try.prog w = .ok (.enter f args) w) ∧ ∀ w1 ae ce js, Below w.heap.size w w1 → IRd w1 ae (jsI js) → (∀ j ∈ js, j < N) → js.length ≤ 3000 → Calls Try.prog f (bnd.push (.slice ae js.length ce) ++ caps) w1 fun e w2 => (∃ a2 c2, e = .returned (.slice a2 (st js).length c2) ∧ IRd w2 a2 (jsI (st js))) ∧ Below w1.heap.size w1 w2
theorem AsksJ.below {w w' : World} {v : Value} {N : Nat} {st : List Nat → List Nat} (h : AsksJ w v N st) (hb : Below w.heap.size w w') : AsksJ w' v N st := by
  obtain ⟨f, bnd, caps, e, h1, h2⟩ := h
  exact ⟨f, bnd, caps, e, h1, fun w1 ae ce js h9 => h2 w1 ae ce js (hb.trans (h9.mono hb.size))⟩
theorem AsksJ.eq {w : World} {v : Value} {N : Nat} {st st' : List Nat → List Nat} (h : AsksJ w v N st) (he : ∀ js, (∀ j ∈ js, j < N) → st js = st' js) : AsksJ w v N st' := by
  obtain ⟨f, bnd, caps, e, h1, h2⟩ := h
  refine ⟨f, bnd, caps, e, h1, fun w1 ae ce js h9 hr hq hl => ?_⟩
  rw [← he js hq]
  exact h2 w1 ae ce js h9 hr hq hl
/-- Those that are wanted, or all, if none is. -/
def ratherL (y : Nat → Bool) (js : List Nat) : List Nat := if (js.filter y).length = 0 then js else js.filter y
set_option maxHeartbeats 1600000 in
theorem rather1_any (num : Int) (ai : Option Addr) (ni ci : Nat) (al : Option Addr) (cl : Nat) (all : List Rt) (ae : Option Addr) (ce : Nat) (js : List Nat) (v : Value) (y : Nat → Bool) (X Y : Nat) (w : World) (hj : js.length ≤ 3000) (hq : ∀ j ∈ js, j < all.length) (R : RtsRd w al all) (E : IRd w ae (jsI js)) (hy : ∀ (j : Nat) (r : Rt), all[j]? = some r → AsksR w v r (BoolRet (y j)))
    (x0 : w.cell? ⟨X, 0, none⟩ = some (.int .i64 num)) (x1 : w.cell? ⟨X, 1, none⟩ = some (.slice ai ni ci)) (x2 : w.cell? ⟨X, 2, none⟩ = some (.slice al all.length cl)) (y0 : w.cell? ⟨Y, 0, none⟩ = some v) :
    Calls Try.prog 41 #[.slice ae js.length ce, .pointer (some ⟨X, 0, none⟩), .pointer (some ⟨Y, 0, none⟩)] w fun e w' => (∃ a2 c2, e = .returned (.slice a2 (ratherL y js).length c2) ∧ IRd w' a2 (jsI (ratherL y js))) ∧ Below w.heap.size w w' := by
  have K := hide (those_any num ai ni ci al cl all ae ce js v y w hj hq R E hy)
  have HE := hide E
  have zX := World.block_lt_of_cell? w _ x0
  have zY := World.block_lt_of_cell? w _ y0
  simp only at zX zY
  clear R E hy hq
  generalize all.length = m at *
  obtain ⟨n, hn⟩ : ∃ n, n = js.length := ⟨_, rfl⟩
  rw [← hn] at hj K ⊢
  have HN := hide hn
  clear hn
  obtain ⟨st, hst⟩ : ∃ st, st = ratherL y js := ⟨_, rfl⟩
  rw [← hst]
  have HS := hide hst
  clear hst
  go_enter Try.func41, Try.ntmps41
  go_wp2_with fail
  refine K.out.mono ?_
  rintro e w2 ⟨⟨s, rfl, ho⟩, hb⟩
  obtain ⟨a, c, rfl, rd⟩ := ho.rd
  have HB := hide hb
  have RD := hide rd
  have HE2 : Hid (IRd w2 ae (jsI js)) := HE.out.below hb
  clear K HE hb rd ho x0 x1 x2 y0
  obtain ⟨q, hqq⟩ : ∃ q, q = (js.filter y).length := ⟨_, rfl⟩
  have HQQ := hide hqq
  rw [← hqq]
  clear hqq
  by_cases h0 : q = 0
  · have HR : Hid (ratherL y js = js) := if_pos (by rw [← HQQ.out]; exact h0)
    subst h0
    go_wp2
    go_ret
    exact ⟨⟨_, _, by rw [HS.out, HR.out, ← HN.out]; rfl, by rw [HS.out, HR.out]; exact HE2.out⟩, HB.out⟩
  · have HR : Hid (ratherL y js = js.filter y) := if_neg (by rw [← HQQ.out]; exact h0)
    have h1 : 0 < q := by omega
    clear h0
    go_wp2
    go_ret
    exact ⟨⟨_, _, by rw [HS.out, HR.out, ← HQQ.out]; rfl, by rw [HS.out, HR.out]; exact RD.out⟩, HB.out⟩
set_option maxHeartbeats 800000 in
theorem rather_any (num : Int) (ai : Option Addr) (ni ci : Nat) (al : Option Addr) (cl : Nat) (all : List Rt) (fv : Nat) (bnd caps : Array Value) (y : Nat → Bool) (w : World) (R : RtsRd w al all) (hy : ∀ (j : Nat) (r : Rt), all[j]? = some r → AsksR w (.func (.func fv) bnd caps) r (BoolRet (y j))) :
    Calls Try.prog 21 #[.agg #[.int .i64 num, .slice ai ni ci, .slice al all.length cl], .func (.func fv) bnd caps] w fun e w' => (∃ v, e = .returned v ∧ AsksJ w' v all.length (ratherL y)) ∧ Below w.heap.size w w' := by
  have HK : Hid (∀ (X Y : Nat) (W : World), Below w.heap.size w W → W.cell? ⟨X, 0, none⟩ = some (.int .i64 num) → W.cell? ⟨X, 1, none⟩ = some (.slice ai ni ci) → W.cell? ⟨X, 2, none⟩ = some (.slice al all.length cl) → W.cell? ⟨Y, 0, none⟩ = some (.func (.func fv) bnd caps) → AsksJ W (.func (.func 41) #[] #[.pointer (some ⟨X, 0, none⟩), .pointer (some ⟨Y, 0, none⟩)]) all.length (ratherL y)) := fun X Y W hb x0 x1 x2 y0 => by
    have zX := World.block_lt_of_cell? W _ x0
    have zY := World.block_lt_of_cell? W _ y0
    refine ⟨_, _, _, rfl, Try.call41, fun w1 ae ce js h9 hr hq hl => ?_⟩
    have hb9 := hb.trans (h9.mono hb.size)
    have := rather1_any num ai ni ci al cl all ae ce js (.func (.func fv) bnd caps) y X Y w1 hl hq (R.below hb9) hr (fun j r h => (hy j r h).below hb9) (by rw [h9.cell (p := ⟨X, 0, none⟩) zX]; exact x0) (by rw [h9.cell (p := ⟨X, 1, none⟩) zX]; exact x1) (by rw [h9.cell (p := ⟨X, 2, none⟩) zX]; exact x2) (by rw [h9.cell (p := ⟨Y, 0, none⟩) zY]; exact y0)
    exact this
  clear R hy
  generalize all.length = m at *
  go_enter Try.func21, Try.ntmps21
  go_wp2
  go_ret
  have hb : Below w.heap.size w ((w.alloc (.cells #[.int .i64 num, .slice ai ni ci, .slice al m cl] 53)).alloc (.cells #[.func (.func fv) bnd caps] 56)) := ((Below.refl _ _).alloc (Nat.le_refl _) _).alloc (by simp) _
  exact ⟨⟨_, rfl, HK.out _ _ _ hb (by simp [go_sem]) (by simp [go_sem]) (by simp [go_sem]) (by simp [go_sem])⟩, hb⟩
end Go.Proofs.Ytolpaimmmhoiiaa
