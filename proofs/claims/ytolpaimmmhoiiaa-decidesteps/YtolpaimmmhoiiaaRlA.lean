/- Lists of routes that are read; the document's SameRoutes. -/
import Derived.Test.YtolpaimmmhoiiaaRtM
import Derived.Test.YtolpaimmmhoiiaaMix
namespace Go.Proofs.Ytolpaimmmhoiiaa
open Go.RowKit
set_option maxRecDepth 100000

/-- A route that is read at a place of a block: its cells, and what they lead to. -/
def RtAt (w : World) (g o : Nat) (r : Rt) (pa : Option Addr) (pc : Nat) (ca : Option Addr) (cc : Nat) (ra : Option Addr) (rc : Nat) : Prop :=
  (∀ j v, (rtC pa pc ca cc ra rc r)[j]? = some v → w.cell? ⟨g, o + j, none⟩ = some v) ∧ AtRd w pa ca ra r.att
theorem RtAt.below {w w' : World} {g o : Nat} {r : Rt} {pa : Option Addr} {pc : Nat} {ca : Option Addr} {cc : Nat} {ra : Option Addr} {rc : Nat} (h : RtAt w g o r pa pc ca cc ra rc) (hb : Below w.heap.size w w') : RtAt w' g o r pa pc ca cc ra rc :=
  ⟨fun j v hv => by
    have h1 := h.1 j v hv
    rw [hb.cell (p := ⟨g, o + j, none⟩) (World.block_lt_of_cell? w _ h1)]
    exact h1, h.2.below hb⟩
/-- The slice's elements are the routes l. -/
def RtsRd (w : World) (a : Option Addr) (l : List Rt) : Prop := 0 < l.length → ∃ b off, a = some ⟨b, off, none⟩ ∧ ∀ i r, l[i]? = some r → ∃ pa pc ca cc ra rc, RtAt w b (off + i * 11) r pa pc ca cc ra rc
theorem RtsRd.below {w w' : World} {a : Option Addr} {l : List Rt} (h : RtsRd w a l) (hb : Below w.heap.size w w') : RtsRd w' a l := fun hp => by
  obtain ⟨b, off, e, hc⟩ := h hp
  refine ⟨b, off, e, fun i r hi => ?_⟩
  obtain ⟨pa, pc, ca, cc, ra, rc, h1⟩ := hc i r hi
  exact ⟨pa, pc, ca, cc, ra, rc, h1.below hb⟩
theorem run_loadR_at {w : World} {g o : Nat} {r : Rt} {pa : Option Addr} {pc : Nat} {ca : Option Addr} {cc : Nat} {ra : Option Addr} {rc : Nat} (h : RtAt w g o r pa pc ca cc ra rc) : (Instr.loadAt 41 (.pointer (some ⟨g, o, none⟩))).run Try.prog w = .ok (.agg (rtC pa pc ca cc ra rc r)) w := by
  have := run_loadAt_mid (P := Try.prog) w g o 41 (rtC pa pc ca cc ra rc r).toList _ (fun j v hv => h.1 j v (by rw [← Array.getElem?_toList]; exact hv)) Try.underlying41 rfl (by rw [infoR]; rfl)
  simpa using this
section
variable {ρ : Operand → Value} {dst : Option Tmp} {ty : TypeId} {pos : String} {after : Array Edge} {gd : Option (Nat × Bool)}
theorem exec_loadR_at {w : World} {g o : Nat} {x : Operand} {r : Rt} {pa : Option Addr} {pc : Nat} {ca : Option Addr} {cc : Nat} {ra : Option Addr} {rc : Nat} (hx : ρ x = .pointer (some ⟨g, o, none⟩)) (h : RtAt w g o r pa pc ca cc ra rc) :
    (execOp ρ { dst := dst, op := .load 41 x, type := ty, pos := pos, after := after, guard := gd }).run Try.prog w = .ok (.value (.agg (rtC pa pc ca cc ra rc r))) w := by
  have hr := run_loadR_at h
  unfold execOp
  simp only [hx, Sem.run_bind, hr, Result.andThen_ok, Sem.run_pure]
end
/-- The same lists? -/
def eqRts : List Rt → List Rt → Bool
  | [], [] => true
  | a :: l, b :: m => eqRt a b && eqRts l m
  | _, _ => false
theorem eqRts_length : ∀ (l m : List Rt), eqRts l m = true → l.length = m.length
  | [], [], _ => rfl
  | _ :: l, _ :: m, h => by
    simp only [eqRts, Bool.and_eq_true] at h
    simp [eqRts_length l m h.2]
  | [], _ :: _, h => by cases h
  | _ :: _, [], h => by cases h
theorem eqRts_at : ∀ (l m : List Rt) (k : Nat) (a b : Rt), l[k]? = some a → m[k]? = some b → eqRt a b = false → eqRts l m = false
  | [], _, _, _, _, h, _, _ => by simp at h
  | _ :: _, [], _, _, _, _, h, _ => by simp at h
  | x :: l, y :: m, 0, a, b, h1, h2, h3 => by
    simp at h1 h2
    subst h1 h2
    simp [eqRts, h3]
  | x :: l, y :: m, k + 1, a, b, h1, h2, h3 => by
    simp at h1 h2
    simp [eqRts, eqRts_at l m k a b h1 h2 h3]
theorem eqRts_all : ∀ (l m : List Rt), l.length = m.length → (∀ (k : Nat) a b, l[k]? = some a → m[k]? = some b → eqRt a b = true) → eqRts l m = true
  | [], [], _, _ => rfl
  | x :: l, y :: m, h, hh => by
    simp only [eqRts, Bool.and_eq_true]
    exact ⟨hh 0 x y rfl rfl, eqRts_all l m (by simpa using h) (fun k a b h1 h2 => hh (k + 1) a b (by simpa using h1) (by simpa using h2))⟩
  | [], _ :: _, h, _ => by simp at h
  | _ :: _, [], h, _ => by simp at h
/-- None too great to be played. -/
def smallRs (l : List Rt) : Prop := ∀ r ∈ l, sizeA r.att ≤ 100000
end Go.Proofs.Ytolpaimmmhoiiaa
