/- The program's Decode: what its head tells. -/
import Derived.Test.YtcbonpofbmogjaaGreatDoorMgD0
import Derived.Test.YtcbonpofbmogjaaGreatDoorMgH
namespace Go.Proofs.YtcbonpofbmogjaaGreatDoor
open Go.RowKit
set_option maxRecDepth 100000

/-- A Note is answered, and no message. -/
def BadIs (w w' : World) (e : Ending) (c s : Nat) (d : List Nat) : Prop := ∃ u, e = .returned (.tuple #[.agg zM, u]) ∧ NoteIs w.heap.size w' u c s d
/-- The two boxes of the answers. -/
def dW (w : World) : World := (w.alloc (.cells zM 40)).alloc (.cells #[.int .i64 0, .int .i64 0, .slice none 0 0] 38)
theorem dW_size (w : World) : (dW w).heap.size = w.heap.size + 1 + 1 := by unfold dW; simp
theorem dW_below (w : World) : Below w.heap.size w (dW w) := ((Below.refl _ _).alloc (Nat.le_refl _) _).alloc (by simp) _
theorem dW_M (w : World) : (dW w).heap[w.heap.size]? = some (.cells zM 40 (0, 0)) := by
  unfold dW World.alloc
  simp only
  rw [Array.getElem?_push_lt (by simp), Array.getElem_push_eq]
theorem dW_N (w : World) : (dW w).heap[w.heap.size + 1]? = some (.cells #[.int .i64 0, .int .i64 0, .slice none 0 0] 38 (0, 0)) := by
  unfold dW World.alloc
  simp only
  have : w.heap.size + 1 = (w.heap.push (.cells zM 40)).size := by simp
  rw [this, Array.getElem?_push_size]
/-- What Head answers, at the boxes' world. -/
theorem head_dW (a : Option Addr) (c : Nat) (bs : List Nat) (w : World) (hl : bs.length ≤ 100000) (hcap : bs.length ≤ c) (h : BRd w a bs) (hS : SaidM w) (r : Nat × Nat × Nat × List Nat) (hr : headM bs = r) :
    Calls Tryz.prog 13 #[.slice a bs.length c] (dW w) fun e w1 => ∃ a9 c9, e = .returned (.tuple #[.int .i64 (r.1 : Int), .agg #[.int .i64 (r.2.1 : Int), .int .i64 (r.2.2.1 : Int), .slice a9 r.2.2.2.length c9]]) ∧ Hid (w1.ownsRow (w.heap.size + 2) 5 1 (.slice a9 r.2.2.2.length c9) r.2.2.2.length (bcells r.2.2.2)) ∧ Hid (Below (w.heap.size + 2) (dW w) w1) := by
  subst hr
  refine (head_any a c bs (dW w) hl hcap (h.below (dW_below w)) (hS.below (dW_below w))).mono ?_
  rintro e w1 ⟨⟨u, rfl, a9, c9, rfl, ho⟩, hb⟩
  rw [dW_size] at ho hb
  exact ⟨a9, c9, rfl, ho, hb⟩
theorem heap_old {w : World} {o : Obj} {k : Nat} (h : k < w.heap.size) : (w.alloc o).heap[k]? = w.heap[k]? := by
  unfold World.alloc
  simp only
  rw [Array.getElem?_push_lt h, Array.getElem?_eq_getElem h]
theorem own_keep {F : Nat → Prop} {w w' : World} {B e size n : Nat} {v : Value} {xs : List Value} (h : w.ownsRow B e size v n xs) (hk : Keeps F w w') (hF : ∀ x, B ≤ x → ¬ F x) : w'.ownsRow B e size v n xs := by
  refine ⟨h.1, ?_⟩
  rcases h.2 with hh | ⟨g, cap, cur, e1, hg, hc, rest⟩
  · exact .inl hh
  · exact .inr ⟨g, cap, cur, e1, hg, by rw [hk.block g (Array.getElem?_eq_some_iff.1 hc).1 (hF g hg)]; exact hc, rest⟩
section
variable {dst : Option Tmp} {ty : TypeId} {pos : String} {after : Array Edge} {ρ : Operand → Value}
theorem run_of_build (w : World) : (execOp ρ { dst := dst, op := .build 40 #[], type := ty, pos := pos, after := after, guard := none }).run Tryz.prog w = .ok (.value (.agg zM)) w := by
  unfold execOp
  have e : ((#[] : Array (Nat × Operand)).map fun (i, x) => (i, ρ x)) = #[] := by simp
  simp only [e, Sem.run_bind, run_build0M, Result.andThen_ok, Sem.run_pure]
theorem run_of_loadN {w : World} {x : Operand} {g : Nat} {c s v : Value} (hx : ρ x = .pointer (some ⟨g, 0, none⟩)) (h : w.heap[g]? = some (.cells #[c, s, v] 38 (0, 0))) : (execOp ρ { dst := dst, op := .load 38 x, type := ty, pos := pos, after := after, guard := none }).run Tryz.prog w = .ok (.value (.agg #[c, s, v])) w := by
  have hr := run_loadAt_mid (P := Tryz.prog) w g 0 38 [c, s, v] _ (range_of h) Tryz.underlying38 rfl infoN
  unfold execOp
  simp only [hx, Sem.run_bind, hr, Result.andThen_ok, Sem.run_pure]
end
section
attribute [local go_sem ↓] keptM_load keptM_store keptM_alloc keptM_build
set_option maxHeartbeats 4000000 in
theorem dec_bad (a : Option Addr) (cp n : Nat) (bs : List Nat) (w : World) (hn : bs.length = n) (hl : bs.length ≤ 100000) (hcap : bs.length ≤ cp) (h : BRd w a bs) (hS : SaidM w) (k s : Nat) (d : List Nat) (hr : headM bs = (0, k, s, d)) (hk : k ≠ 0) :
    Calls Tryz.prog 9 #[.slice a n cp] w fun e w' => BadIs w w' e k s d ∧ Below w.heap.size w w' := by
  have KH := head_dW a cp bs w hl hcap h hS _ hr
  rw [hn] at KH
  have HK := hide KH
  clear KH h hS hl hcap hr hn
  have hkz : ((k : Int) != 0) = true := by simp; omega
  simp only at HK
  unfold BadIs NoteIs
  generalize d.length = dl at *
  go_enter Tryz.func9, Tryz.ntmps9
  go_wp2_with (refine keptM_alloc_intro _ (run_allocM w) ?_)
  show Calls Tryz.prog 13 #[.slice a n cp] (dW w) _
  with_reducible refine HK.out.mono ?_
  rintro e w1 ⟨a9, c9, rfl, HO, HB⟩
  have HMb : Hid (w1.heap[w.heap.size]? = some (.cells zM 40 (0, 0))) := by show _ = _; rw [HB.out.block _ (by omega)]; exact dW_M w
  have HNb : Hid (w1.heap[w.heap.size + 1]? = some (.cells #[.int .i64 0, .int .i64 0, .slice none 0 0] 38 (0, 0))) := by show _ = _; rw [HB.out.block _ (by omega)]; exact dW_N w
  have hsz : w.heap.size + 1 + 1 ≤ w1.heap.size := by have := HB.out.size; rw [dW_size] at this; exact this
  have HBW : Hid (Below w.heap.size w w1) := (dW_below w).trans (HB.out.mono (by omega))
  go_wp2_with fail
  have HMb2 : Hid ((w1.alloc (.cells #[.int .i64 (k : Int), .int .i64 (s : Int), .slice a9 dl c9] 38)).heap[w.heap.size]? = some (.cells zM 40 (0, 0))) := by
    show _ = _; rw [heap_old (by omega)]; exact HMb.out
  have HNb2 : Hid ((w1.alloc (.cells #[.int .i64 (k : Int), .int .i64 (s : Int), .slice a9 dl c9] 38)).heap[w.heap.size + 1]? = some (.cells #[.int .i64 0, .int .i64 0, .slice none 0 0] 38 (0, 0))) := by
    show _ = _; rw [heap_old (by omega)]; exact HNb.out
  have HXb : Hid ((w1.alloc (.cells #[.int .i64 (k : Int), .int .i64 (s : Int), .slice a9 dl c9] 38)).heap[w1.heap.size]? = some (.cells #[.int .i64 (k : Int), .int .i64 (s : Int), .slice a9 dl c9] 38 (0, 0))) := heap_alloc_new w1 _
  have HOW : Hid ((w1.alloc (.cells #[.int .i64 (k : Int), .int .i64 (s : Int), .slice a9 dl c9] 38)).ownsRow (w.heap.size + 2) 5 1 (.slice a9 dl c9) dl (bcells d)) := HO.out.alloc _
  have HBW2 : Hid (Below w.heap.size w (w1.alloc (.cells #[.int .i64 (k : Int), .int .i64 (s : Int), .slice a9 dl c9] 38))) := HBW.out.alloc (by omega) _
  have hz9 : (w1.alloc (.cells #[.int .i64 (k : Int), .int .i64 (s : Int), .slice a9 dl c9] 38)).heap.size = w1.heap.size + 1 := by simp
  have HZ := hide hz9
  clear hz9
  generalize (w1.alloc (.cells #[.int .i64 (k : Int), .int .i64 (s : Int), .slice a9 dl c9] 38)) = W at *
  refine out_region _ W w.heap.size (w.heap.size + 1) 40 zM zM #[.int .i64 0, .int .i64 0, .slice none 0 0] #[.int .i64 (k : Int), .int .i64 (s : Int), .slice a9 dl c9] 16 17 _ _ ⟨_, _, _, rfl⟩ ⟨_, _, _, rfl⟩ ⟨_, _, _, rfl⟩ ⟨_, _, _, rfl⟩ rfl (by kernel_rfl) (by kernel_rfl) (by kernel_rfl) (by kernel_rfl) (by kernel_rfl) (by kernel_rfl) (by kernel_rfl) (by kernel_rfl)
    (fun ty po af W' _ => run_of_build W') (fun ty po af W' hW => run_of_loadN (by rfl) (by
      show W'.heap[w1.heap.size]? = _
      rw [hW.block _ (by rw [HZ.out]; omega) (by omega)]; exact HXb.out)) rfl rfl (show 16 < 75 by decide) (show 17 < 75 by decide) (by decide) HMb2.out HNb2.out (by omega) rfl rfl infoM infoN MC.zero.2 (by simp [Value.oneCell']) ?_
  simp only [Act.put, List.setIfInBounds_toArray, List.set_cons_zero, List.set_cons_succ]
  have HRM : Hid (((({ W with drawn := W.drawn + 1 } : World).setCells w.heap.size 0 zM.toList).setCells (w.heap.size + 1) 0 (#[Value.int .i64 (k : Int), .int .i64 (s : Int), .slice a9 dl c9] : Array Value).toList).rangeAt w.heap.size 0 zM.toList) := bx_apart (bx_set (w := { W with drawn := W.drawn + 1 }) HMb2.out (Nat.le_refl _)) (by omega)
  have HRN : Hid (((({ W with drawn := W.drawn + 1 } : World).setCells w.heap.size 0 zM.toList).setCells (w.heap.size + 1) 0 (#[Value.int .i64 (k : Int), .int .i64 (s : Int), .slice a9 dl c9] : Array Value).toList).rangeAt (w.heap.size + 1) 0 (#[Value.int .i64 (k : Int), .int .i64 (s : Int), .slice a9 dl c9] : Array Value).toList) :=
    bx_set (C0 := #[.int .i64 0, .int .i64 0, .slice none 0 0]) (t := 38) (by rw [heap_sets (by omega)]; exact HNb2.out) (by simp)
  have HKe : Hid (Keeps (fun x => x = w.heap.size ∨ x = w.heap.size + 1) W ((({ W with drawn := W.drawn + 1 } : World).setCells w.heap.size 0 zM.toList).setCells (w.heap.size + 1) 0 (#[Value.int .i64 (k : Int), .int .i64 (s : Int), .slice a9 dl c9] : Array Value).toList)) :=
    (Keeps.setCells (w := W) (w1 := { W with drawn := W.drawn + 1 }) ⟨rfl, rfl, rfl, Nat.le_refl _, fun _ _ _ => rfl⟩ _ 0 _ (.inl (.inl rfl))).setCells _ 0 _ (.inl (.inr rfl))
  generalize ((({ W with drawn := W.drawn + 1 } : World).setCells w.heap.size 0 zM.toList).setCells (w.heap.size + 1) 0 (#[Value.int .i64 (k : Int), .int .i64 (s : Int), .slice a9 dl c9] : Array Value).toList) = W9 at *
  go_wp2_with fail
  refine bodyPost_ret (v := .tuple #[.agg zM, .agg #[.int .i64 (k : Int), .int .i64 (s : Int), .slice a9 dl c9]]) (res_cells2 Tryz.results9 _ W9 w.heap.size (w.heap.size + 1) zM _ rfl rfl HRM.out HRN.out Tryz.underlying40 rfl infoM Tryz.underlying38 rfl infoN) rfl ⟨⟨_, rfl, a9, c9, rfl, ?_⟩, ?_⟩
  · exact own_low (own_keep HOW.out HKe.out (by omega)) (by omega)
  · exact HBW2.out.trans (HKe.out.below _ (by rw [HZ.out]; omega) (fun x e => by omega))
end
end Go.Proofs.YtcbonpofbmogjaaGreatDoor
