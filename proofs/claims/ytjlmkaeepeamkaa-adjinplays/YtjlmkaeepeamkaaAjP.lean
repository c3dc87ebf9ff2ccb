/- Tables beside each other; what Put makes of a list that rises. -/
import Derived.Test.YtjlmkaeepeamkaaAjO
import Derived.Test.YtjlmkaeepeamkaaRtA
namespace Go.Proofs.Ytjlmkaeepeamkaa
open Go.RowKit
set_option maxRecDepth 100000

theorem sameK_self (x : Rt) : sameK x x = true := by rw [sameK_iff]; omega
theorem nodup_unlike {l : List Rt} (h : l.Pairwise (fun x y => sameK x y = false)) : l.Nodup := h.imp fun h e => by
  subst e
  rw [sameK_self] at h
  cases h
/-- The table's list behind a Put is the document's. -/
theorem put_perm (r : Rt) (l : List Rt) (h : RisesR l) : (r :: l.filter (fun x => !gone r.A r.L r.peer x)).Perm (putL r l) := by
  have hg : ∀ x, gone r.A r.L r.peer x = sameK r x := fun x => rfl
  have h1 : (r :: l.filter (fun x => !gone r.A r.L r.peer x)).Pairwise (fun x y => sameK x y = false) := by
    rw [List.pairwise_cons]
    refine ⟨fun x hx => ?_, (rises_unlike h).filter _⟩
    have := (List.mem_filter.1 hx).2
    rw [hg] at this
    simpa using this
  refine (List.perm_ext_iff_of_nodup (nodup_unlike h1) (nodup_unlike (rises_unlike (rises_put r l h)))).2 fun x => ?_
  rw [mem_put r x l h, List.mem_cons, List.mem_filter, hg]
  simp
theorem Ent.alien {F : Nat → Prop} {w w' : World} {B : Nat} {e : MapEntry} {r : Rt} (h : Ent w B e r) (hk : Keeps F w w') (hF : ∀ k, F k → Alien w k) : Ent w' B e r := by
  obtain ⟨h1, pa, pc, ca, cc, ra, rc, h2, h3, h4, h5⟩ := h
  have := h3.alien hk hF
  exact ⟨h1, pa, pc, ca, cc, ra, rc, h2, this, this.rd h5 h4.next h4.raws.bytes, h5⟩
/-- A table stands while another one is turned. -/
theorem Tab.other {w w' : World} {b c : Nat} {l m : List Rt} (h : Tab w b l) (hc : Tab w c m) (hne : b ≠ c) (hne2 : b + 1 ≠ c) (hk : Keeps (fun x => x = c) w w') : Tab w' b l := by
  obtain ⟨es, clock, ro, h1, h2, h3, h4, h5⟩ := h
  obtain ⟨es', clock', _, h1', _⟩ := hc
  exact ⟨es, clock, ro, by rw [hk.block b (Array.getElem?_eq_some_iff.1 h1).1 hne]; exact h1, h2, by rw [hk.block (b + 1) (Array.getElem?_eq_some_iff.1 h3).1 hne2]; exact h3, fun e he => (h4 e he).alien hk (fun k e1 C t z hC => by
    subst e1
    rw [h1'] at hC
    cases hC), h5⟩
/-- A cell that reads something is none of a table's map. -/
theorem Tab.sees {w w' : World} {b : Nat} {l : List Rt} (h : Tab w b l) (hk : Keeps (fun x => x = b) w w') : ∀ p v, w.cell? p = some v → w'.cell? p = some v := fun p v hp => by
  obtain ⟨es, clock, ro, h1, _⟩ := h
  have hne : p.block ≠ b := fun e => by
    unfold World.cell? at hp
    rw [e, h1] at hp
    simp at hp
  rw [hk.cell p (World.block_lt_of_cell? w p hp) hne]
  exact hp
end Go.Proofs.Ytjlmkaeepeamkaa
