/- The program's take, copyOf. -/
import Derived.Test.YtflhohfeahcnfaaGreatDoorHSb
import Derived.Test.YtflhohfeahcnfaaGreatDoorAtQt
import Derived.Test.YtflhohfeahcnfaaGreatDoorMgD3
namespace Go.Proofs.YtflhohfeahcnfaaGreatDoor
open Go.RowKit
set_option maxRecDepth 100000

/-- What is left of a row of n behind its first z. -/
def restV (g o n c z : Nat) : Value := if n = z then .slice none 0 0 else .slice (some ⟨g, o + z, none⟩) (n - z) (c - z)
theorem wait_keeps (w : World) (S : Nat) (u : Value) : Keeps (fun x => x = S) w (w.setCell ⟨S, 0, none⟩ u) := (Keeps.refl _ w).setCell _ _ _ (.inl rfl)
set_option maxHeartbeats 1600000 in
theorem take_any (w : World) (S g o n c z : Nat) (k s : Int) (d : Value) (h : StrAt w S (.slice (some ⟨g, o, none⟩) n c) k s d) (hz : z ≤ n) (hc : n ≤ c) :
    Calls Tryz.prog 37 #[.pointer (some ⟨S, 0, none⟩), .int .i64 (z : Int)] w fun e w' => e = .returned (.tuple #[]) ∧ StrAt w' S (restV g o n c z) k s d ∧ Keeps (fun x => x = S) w w' := by
  have zS : S < w.heap.size := World.block_lt_of_cell? w _ h.c0
  have c0 := h.c0
  have f0 := h.fz 0 (by omega)
  have HS := hide h
  clear h
  have i0 : (0 : Int) ≤ (z : Int) := Int.natCast_nonneg _
  by_cases e : n = z
  · subst e
    have HV : Hid (restV g o n c n = .slice none 0 0) := by show _ = _; unfold restV; rw [if_pos rfl]
    rw [HV.out]
    by_cases ec : c = n
    · subst ec
      have HS2 := hide ((HS.out.wait (.slice (some ⟨g, o, none⟩) 0 0)).wait (.slice none 0 0))
      have HK2 : Hid (Keeps (fun x => x = S) w ((w.setCell ⟨S, 0, none⟩ (.slice (some ⟨g, o, none⟩) 0 0)).setCell ⟨S, 0, none⟩ (.slice none 0 0))) := (wait_keeps w S _).setCell _ _ _ (.inl rfl)
      have d0 := (HS.out.wait (.slice (some ⟨g, o, none⟩) 0 0)).c0
      have g0 := (HS.out.wait (.slice (some ⟨g, o, none⟩) 0 0)).fz 0 (by omega)
      have zS2 : S < (w.setCell ⟨S, 0, none⟩ (.slice (some ⟨g, o, none⟩) 0 0)).heap.size := World.block_lt_of_cell? _ _ d0
      go_enter Tryz.func37, Tryz.ntmps37
      go_wp2
      exact bodyPost_end (results_none rfl _ _ _) rfl ⟨rfl, HS2.out, HK2.out⟩
    · have hlc : n < c := by omega
      have HS2 := hide ((HS.out.wait (.slice (some ⟨g, o + n, none⟩) 0 (c - n))).wait (.slice none 0 0))
      have HK2 : Hid (Keeps (fun x => x = S) w ((w.setCell ⟨S, 0, none⟩ (.slice (some ⟨g, o + n, none⟩) 0 (c - n))).setCell ⟨S, 0, none⟩ (.slice none 0 0))) := (wait_keeps w S _).setCell _ _ _ (.inl rfl)
      have d0 := (HS.out.wait (.slice (some ⟨g, o + n, none⟩) 0 (c - n))).c0
      have g0 := (HS.out.wait (.slice (some ⟨g, o + n, none⟩) 0 (c - n))).fz 0 (by omega)
      have zS2 : S < (w.setCell ⟨S, 0, none⟩ (.slice (some ⟨g, o + n, none⟩) 0 (c - n))).heap.size := World.block_lt_of_cell? _ _ d0
      go_enter Tryz.func37, Tryz.ntmps37
      go_wp2
      exact bodyPost_end (results_none rfl _ _ _) rfl ⟨rfl, HS2.out, HK2.out⟩
  · have HV : Hid (restV g o n c z = .slice (some ⟨g, o + z, none⟩) (n - z) (c - z)) := by show _ = _; unfold restV; rw [if_neg e]
    rw [HV.out]
    have ec : ¬ c = z := by omega
    have HS2 := hide (HS.out.wait (.slice (some ⟨g, o + z, none⟩) (n - z) (c - z)))
    have HK2 := hide (wait_keeps w S (.slice (some ⟨g, o + z, none⟩) (n - z) (c - z)))
    have d0 := (HS.out.wait (.slice (some ⟨g, o + z, none⟩) (n - z) (c - z))).c0
    have zS2 : S < (w.setCell ⟨S, 0, none⟩ (.slice (some ⟨g, o + z, none⟩) (n - z) (c - z))).heap.size := World.block_lt_of_cell? _ _ d0
    have e0 : (((n - z : Nat) : Int) == 0) = false := by simp; omega
    go_enter Tryz.func37, Tryz.ntmps37
    go_wp2
    exact bodyPost_end (results_none rfl _ _ _) rfl ⟨rfl, HS2.out, HK2.out⟩
set_option maxHeartbeats 1600000 in
theorem copy_any (k q : Int) (a : Option Addr) (nn c : Nat) (nd : List Nat) (w : World) (hn : nd.length = nn) (hl : nn ≤ 5000) (h : BRd w a nd) :
    Calls Tryz.prog 36 #[.agg #[.int .i64 k, .int .i64 q, .slice a nn c]] w fun e w' => ∃ a9 c9, e = .returned (.agg #[.int .i64 k, .int .i64 q, .slice a9 nn c9]) ∧ w'.ownsRow w.heap.size 5 1 (.slice a9 nn c9) nn (bcells nd) ∧ Below w.heap.size w w' := by
  have hba : Below w.heap.size w ((w.alloc (.cells #[.int .i64 k, .int .i64 q, .slice a nn c] 38)).alloc (.cells #[.int .i64 0, .int .i64 0, .slice none 0 0] 38)) := ((Below.refl _ _).alloc (Nat.le_refl _) _).alloc (by simp) _
  have K := clone_any a c nd ((w.alloc (.cells #[.int .i64 k, .int .i64 q, .slice a nn c] 38)).alloc (.cells #[.int .i64 0, .int .i64 0, .slice none 0 0] 38)) (by omega) (h.below hba)
  rw [hn] at K
  have HK := hide K
  have HBA := hide hba
  clear K hba h
  go_enter Tryz.func36, Tryz.ntmps36
  go_wp2_with fail
  refine HK.out.mono ?_
  rintro e w1 ⟨a9, c9, rfl, ho, hb⟩
  have r0 : w1.cell? ⟨w.heap.size, 0, none⟩ = some (.int .i64 k) := by rw [hb.cell (p := ⟨w.heap.size, 0, none⟩) (by simp <;> omega)]; simp [go_sem]
  have r1 : w1.cell? ⟨w.heap.size, 1, none⟩ = some (.int .i64 q) := by rw [hb.cell (p := ⟨w.heap.size, 1, none⟩) (by simp <;> omega)]; simp [go_sem]
  have r2 : w1.cell? ⟨w.heap.size, 2, none⟩ = some (.slice a nn c) := by rw [hb.cell (p := ⟨w.heap.size, 2, none⟩) (by simp <;> omega)]; simp [go_sem]
  have g2 : w1.frozen? ⟨w.heap.size, 2, none⟩ = false := by rw [hb.frozen (p := ⟨w.heap.size, 2, none⟩) (by simp <;> omega)]; simp [go_sem]
  have t0 : w1.cell? ⟨w.heap.size + 1, 0, none⟩ = some (.int .i64 0) := by rw [hb.cell (p := ⟨w.heap.size + 1, 0, none⟩) (by simp <;> omega)]; simp [go_sem]
  have t1 : w1.cell? ⟨w.heap.size + 1, 1, none⟩ = some (.int .i64 0) := by rw [hb.cell (p := ⟨w.heap.size + 1, 1, none⟩) (by simp <;> omega)]; simp [go_sem]
  have t2 : w1.cell? ⟨w.heap.size + 1, 2, none⟩ = some (.slice none 0 0) := by rw [hb.cell (p := ⟨w.heap.size + 1, 2, none⟩) (by simp <;> omega)]; simp [go_sem]
  have u0 : w1.frozen? ⟨w.heap.size + 1, 0, none⟩ = false := by rw [hb.frozen (p := ⟨w.heap.size + 1, 0, none⟩) (by simp <;> omega)]; simp [go_sem]
  have u1 : w1.frozen? ⟨w.heap.size + 1, 1, none⟩ = false := by rw [hb.frozen (p := ⟨w.heap.size + 1, 1, none⟩) (by simp <;> omega)]; simp [go_sem]
  have u2 : w1.frozen? ⟨w.heap.size + 1, 2, none⟩ = false := by rw [hb.frozen (p := ⟨w.heap.size + 1, 2, none⟩) (by simp <;> omega)]; simp [go_sem]
  have z1 : w.heap.size + 1 < w1.heap.size := World.block_lt_of_cell? w1 _ t0
  have z0 : w.heap.size < w1.heap.size := by omega
  have HB1 : Hid (Below w.heap.size w w1) := HBA.out.trans (hb.mono HBA.out.size)
  have HO : Hid (w1.ownsRow (w.heap.size + 2) 5 1 (.slice a9 nn c9) nn (bcells nd)) := own_low ho (by simp)
  clear ho hb
  go_wp2
  refine bodyPost_ret (v := .agg #[.int .i64 k, .int .i64 q, .slice a9 nn c9]) (by simp [results, Tryz.results36, go_sem, t0, t1, t2]) rfl ⟨_, _, rfl, ?_, ?_⟩
  · exact own_low (own_under (own_under (own_under (own_under HO.out (by omega) 2 _) (by omega) 0 _) (by omega) 1 _) (by omega) 2 _) (by omega)
  · exact (((HB1.out.setCell (by simp) _).setCell (by simp) _).setCell (by simp) _).setCell (by simp) _
end Go.Proofs.YtflhohfeahcnfaaGreatDoor
/- The program's Next: a whole message. -/
namespace Go.Proofs.YtflhohfeahcnfaaGreatDoor
open Go.RowKit
set_option maxRecDepth 100000

theorem StrAt.note {w : World} {S : Nat} {v d : Value} {k s : Int} (h : StrAt w S v k s d) (k' s' : Int) (d' : Value) : StrAt (((w.setCell ⟨S, 1, none⟩ (.int .i64 k')).setCell ⟨S, 2, none⟩ (.int .i64 s')).setCell ⟨S, 3, none⟩ d') S v k' s' d' := by
  have ins := World.cell?_setCells_in S [.int .i64 k', .int .i64 s', d'] 1 w (fun q hq => by
    have : q = 0 ∨ q = 1 ∨ q = 2 := by simp at hq; omega
    rcases this with rfl | rfl | rfl
    · rw [h.c1]; rfl
    · rw [h.c2]; rfl
    · rw [h.c3]; rfl)
  have out := World.cell?_setCells_out S [.int .i64 k', .int .i64 s', d'] 1 w ⟨S, 0, none⟩ (fun _ _ => by simp)
  have i0 := ins 0 (by simp)
  have i1 := ins 1 (by simp)
  have i2 := ins 2 (by simp)
  simp only [World.setCells] at i0 i1 i2 out
  exact ⟨by rw [out]; exact h.c0, i0, i1, i2, fun o ho => by simp; exact h.fz o ho⟩
theorem StrAt.keep {F : Nat → Prop} {w w' : World} {S : Nat} {v d : Value} {k s : Int} (h : StrAt w S v k s d) (hk : Keeps F w w') (hF : ¬ F S) : StrAt w' S v k s d := h.of_block (hk.block _ (World.block_lt_of_cell? w _ h.c0) hF)
theorem range_keep {w w' : World} {g : Nat} {cs : List Value} (hr : w.rangeAt g 0 cs) (hb : w'.heap[g]? = w.heap[g]?) : w'.rangeAt g 0 cs := fun j v hv => by
  rw [World.cell?_of_block (w := w) (by exact hb)]
  exact hr j v hv
/-- What a whole message's Decode answers, and what is known of it: rows from B on. -/
def DecIs (R : Array Value → Int → Int → Value → Nat → World → Prop) (W : World) (e : Ending) (W' : World) : Prop :=
  ∃ C k q na nn nc nd, e = .returned (.tuple #[.agg C, .agg #[.int .i64 k, .int .i64 q, .slice na nn nc]]) ∧ Hid (MC C) ∧ Hid (List.length (α := Nat) nd = nn ∧ nn ≤ 5000 ∧ (∀ x ∈ nd, x < 256) ∧ (nd ≠ [] → W'.ownsRow W.heap.size 5 1 (.slice na nn nc) nn (bcells nd))) ∧ Hid (R C k q (.slice na nn nc) W.heap.size W') ∧ Hid (Below W.heap.size W W')
section
attribute [local go_sem ↓] keptM_load keptM_store keptM_alloc keptM_build
set_option maxHeartbeats 4000000 in
theorem next_whole (R : Array Value → Int → Int → Value → Nat → World → Prop) (hRk : ∀ C k q v B W1 W2 F, Keeps F W1 W2 → (∀ x, B ≤ x → ¬ F x) → R C k q v B W1 → R C k q v B W2)
    (S g o n c z : Nat) (bs : List Nat) (s : Int) (d : Value) (w : World) (h : StrAt w S (.slice (some ⟨g, o, none⟩) n c) 0 s d) (hn : bs.length = n) (hl : n ≤ 100000) (hcap : n ≤ c) (hb : BRd w (some ⟨g, o, none⟩) bs) (hS : SaidM w) (hr : headM bs = (z, 0, 0, [])) (hz0 : z ≠ 0) (hzn : z ≤ n)
    (KD : ∀ W, Below w.heap.size w W → Calls Tryz.prog 10 #[.slice (some ⟨g, o, none⟩) z c] W (DecIs R W)) :
    Calls Tryz.prog 19 #[.pointer (some ⟨S, 0, none⟩)] w fun e w' => ∃ C k q v, e = .returned (.tuple #[.agg C, .agg #[.int .i64 k, .int .i64 q, v], .bool true]) ∧ (∃ B, w.heap.size ≤ B ∧ R C k q v B w') ∧ (∃ a9 c9 nn, StrAt w' S (restV g o n c z) k q (.slice a9 nn c9)) ∧ Keeps (fun x => x = S) w w' := by
  have KH := head_dW (some ⟨g, o, none⟩) c bs w (by omega) (by omega) hb hS _ hr
  rw [hn] at KH
  have HK := hide KH
  simp only [List.length_nil] at HK
  have HKD := hide KD
  have HSt := hide h
  have HRk := hide hRk
  have c0 := h.c0
  have c1 := h.c1
  have zS : S < w.heap.size := World.block_lt_of_cell? w _ c0
  clear KH h hb hS hr KD hRk
  have ez : ((z : Int) == 0) = false := by simp; omega
  have gz : decide (n < z) = false := decide_eq_false (by omega)
  have hz1 : (0 : Int) ≤ (z : Int) := Int.natCast_nonneg _
  have hz2 : z ≤ c := by omega
  go_enter Tryz.func19, Tryz.ntmps19
  go_wp2_with (refine keptM_alloc_intro _ (run_allocM w) ?_)
  show Calls Tryz.prog 23 #[.slice (some ⟨g, o, none⟩) n c] (dW w) _
  with_reducible refine HK.out.mono ?_
  rintro e w1 ⟨a8, c8, rfl, HO, HB⟩
  have hsz : w.heap.size + 1 + 1 ≤ w1.heap.size := by have := HB.out.size; rw [dW_size] at this; exact this
  have HBW : Hid (Below w.heap.size w w1) := (dW_below w).trans (HB.out.mono (by omega))
  have HBW2 : Hid (Below w.heap.size w (w1.alloc (.cells #[.int .i64 0, .int .i64 0, .slice a8 0 c8] 38))) := HBW.out.alloc (by omega) _
  have HM : Hid ((w1.alloc (.cells #[.int .i64 0, .int .i64 0, .slice a8 0 c8] 38)).heap[w.heap.size]? = some (.cells zM 40 (0, 0))) := by show _ = _; rw [heap_old (by omega), HB.out.block _ (by omega)]; exact dW_M w
  have HN : Hid ((w1.alloc (.cells #[.int .i64 0, .int .i64 0, .slice a8 0 c8] 38)).heap[w.heap.size + 1]? = some (.cells #[.int .i64 0, .int .i64 0, .slice none 0 0] 38 (0, 0))) := by show _ = _; rw [heap_old (by omega), HB.out.block _ (by omega)]; exact dW_N w
  have HX : Hid ((w1.alloc (.cells #[.int .i64 0, .int .i64 0, .slice a8 0 c8] 38)).heap[w1.heap.size]? = some (.cells #[.int .i64 0, .int .i64 0, .slice a8 0 c8] 38 (0, 0))) := heap_alloc_new w1 _
  have d0 : w1.cell? ⟨S, 0, none⟩ = some (.slice (some ⟨g, o, none⟩) n c) := by rw [HBW.out.cell (p := ⟨S, 0, none⟩) zS]; exact c0
  have zS1 : S < w1.heap.size := by omega
  have HZ : Hid ((w1.alloc (.cells #[.int .i64 0, .int .i64 0, .slice a8 0 c8] 38)).heap.size = w1.heap.size + 1) := by show _ = _; simp
  go_wp2_with fail
  generalize (w1.alloc (.cells #[.int .i64 0, .int .i64 0, .slice a8 0 c8] 38)) = W at *
  refine (HKD.out W HBW2.out).mono ?_
  rintro e W1 ⟨C, k, q, na, nn, nc, nd, rfl, HC, HND, HR, HB1⟩
  have hzW := HZ.out
  have hsW : W.heap.size ≤ W1.heap.size := HB1.out.size
  have bX1 : W1.heap[w1.heap.size]? = some (.cells #[.int .i64 0, .int .i64 0, .slice a8 0 c8] 38 (0, 0)) := by rw [HB1.out.block _ (by omega)]; exact HX.out
  have hs1 : StrAt (W1.alloc (.cells zM 40)) S (.slice (some ⟨g, o, none⟩) n c) 0 s d := ((HSt.out.below HBW2.out).below HB1.out).below ((Below.refl _ _).alloc (Nat.le_refl _) _)
  obtain ⟨W2, hst, hX2, hRY, hRX, hK3⟩ := store_two (gM := W1.heap.size) (gN := w1.heap.size) (heap_alloc_new W1 (.cells zM 40)) rfl (by rw [heap_old (by omega)]; exact bX1) (by omega) HC.out (.int .i64 k) (.int .i64 q) (.slice na nn nc)
  obtain ⟨⟨n0, n1, n2⟩, f0, f1, f2⟩ := nt_of3 hX2
  have HST := hide hst
  have hs3 := hs1.keep hK3 (by omega)
  have hzX : w1.heap.size < W2.heap.size := (Array.getElem?_eq_some_iff.1 hX2).1
  have HS3 := hide hs3
  have HRY := hide hRY
  have HRX := hide hRX
  have HK3 := hide hK3
  clear hst hRY hRX hK3 hs3 hs1 hX2
  go_wp2_with (first | (refine keptM_alloc_intro _ (run_allocM W1) ?_) | (refine keptM_store_intro _ _ (.pointer (some ⟨W1.heap.size, 0, none⟩)) (.agg C) (by rfl) (by rfl) HST.out ?_))
  have hz3 : W1.heap.size + 1 ≤ (((W2.setCell ⟨w1.heap.size, 0, none⟩ (.int .i64 k)).setCell ⟨w1.heap.size, 1, none⟩ (.int .i64 q)).setCell ⟨w1.heap.size, 2, none⟩ (.slice na nn nc)).heap.size := by have := HK3.out.size; simp at this ⊢; omega
  generalize (((W2.setCell ⟨w1.heap.size, 0, none⟩ (.int .i64 k)).setCell ⟨w1.heap.size, 1, none⟩ (.int .i64 q)).setCell ⟨w1.heap.size, 2, none⟩ (.slice na nn nc)) = W3 at *
  clear n0 n1 n2 f0 f1 f2 hzX HST
  refine (take_any W3 S g o n c z 0 s d HS3.out hzn hcap).mono ?_
  rintro e W4 ⟨rfl, hs4, hk4⟩
  have hRX4 := range_keep HRX.out (hk4.block w1.heap.size (by omega) (by omega))
  have hRY4 := range_keep HRY.out (hk4.block W1.heap.size (by omega) (by omega))
  have hz4 : W1.heap.size + 1 ≤ W4.heap.size := Nat.le_trans hz3 hk4.size
  have K4 : Keeps (fun x => x = S ∨ x = w1.heap.size ∨ x = w.heap.size ∨ x = w.heap.size + 1) W1 W4 := ((((Keeps.refl _ W1).alloc (.cells zM 40)).trans HK3.out fun b hb h => by omega).trans hk4 fun b hb h => .inl h)
  have HQ4 : Hid (Keeps (fun x => x = S ∨ x = w1.heap.size) W1 W4) := ((((Keeps.refl _ W1).alloc (.cells zM 40)).trans HK3.out fun b hb h => by omega).trans hk4 fun b hb h => .inl h)
  have x0 : W4.cell? ⟨w1.heap.size, 0, none⟩ = some (.int .i64 k) := hRX4 0 _ rfl
  have x1 : W4.cell? ⟨w1.heap.size, 1, none⟩ = some (.int .i64 q) := hRX4 1 _ rfl
  have x2 : W4.cell? ⟨w1.heap.size, 2, none⟩ = some (.slice na nn nc) := hRX4 2 _ rfl
  have hbr : BRd W4 na nd := by
    by_cases e : nd = []
    · rw [e]; exact brd_none _ _
    · have h9 := own_keep (HND.out.2.2.2 e) K4 (fun x hx h => by omega)
      have hln := HND.out.1
      subst hln
      obtain ⟨a7, c7, e7, _, hr7⟩ := own_brd h9 (by have := HND.out.2.1; omega) HND.out.2.2.1
      cases e7
      exact hr7
  have HCp := hide (copy_any k q na nn nc nd W4 HND.out.1 HND.out.2.1 hbr)
  have HS4 := hide hs4
  have HRX4 := hide hRX4
  have HRY4 := hide hRY4
  have HK4 := hide K4
  have zX4 : w1.heap.size < W4.heap.size := by omega
  clear hs4 hk4 hRX4 hRY4 K4 hbr HS3 HRX HRY HK3 hz3
  go_wp2_with fail
  refine HCp.out.mono ?_
  rintro e W5 ⟨a9, c9, rfl, ho5, hb5⟩
  have hs5 := HS4.out.below hb5
  have y1 := hs5.c1
  have y2 := hs5.c2
  have y3 := hs5.c3
  have y0 := hs5.c0
  have g1 := hs5.fz 1 (by omega)
  have g2 := hs5.fz 2 (by omega)
  have g3 := hs5.fz 3 (by omega)
  have zS5 : S < W5.heap.size := World.block_lt_of_cell? W5 _ y0
  have hz5 : W4.heap.size ≤ W5.heap.size := hb5.size
  have K6 : Keeps (fun x => x = S) W5 (((W5.setCell ⟨S, 1, none⟩ (.int .i64 k)).setCell ⟨S, 2, none⟩ (.int .i64 q)).setCell ⟨S, 3, none⟩ (.slice a9 nn c9)) := (((Keeps.refl (fun x => x = S) W5).setCell S 1 _ (.inl rfl)).setCell S 2 _ (.inl rfl)).setCell S 3 _ (.inl rfl)
  have K46 : Keeps (fun x => x = S) W4 (((W5.setCell ⟨S, 1, none⟩ (.int .i64 k)).setCell ⟨S, 2, none⟩ (.int .i64 q)).setCell ⟨S, 3, none⟩ (.slice a9 nn c9)) := (Keeps.of_below hb5 _).trans K6 fun _ _ h => h
  have HS6 := hide (hs5.note k q (.slice a9 nn c9))
  have HRX6 := hide (range_keep HRX4.out (K46.block w1.heap.size (by omega) (by omega)))
  have HRY6 := hide (range_keep HRY4.out (K46.block W1.heap.size (by omega) (by omega)))
  have HK16 : Hid (Keeps (fun x => x = S ∨ x = w1.heap.size ∨ x = w.heap.size ∨ x = w.heap.size + 1) W1 (((W5.setCell ⟨S, 1, none⟩ (.int .i64 k)).setCell ⟨S, 2, none⟩ (.int .i64 q)).setCell ⟨S, 3, none⟩ (.slice a9 nn c9))) := HK4.out.trans K46 fun b hb h => .inl h
  have HQ : Hid (∀ b, b < W1.heap.size → (b ≠ S ∧ b ≠ w1.heap.size) → (((W5.setCell ⟨S, 1, none⟩ (.int .i64 k)).setCell ⟨S, 2, none⟩ (.int .i64 q)).setCell ⟨S, 3, none⟩ (.slice a9 nn c9)).heap[b]? = W1.heap[b]?) := fun b hb h => by
    rw [K46.block b (by omega) h.1]
    exact HQ4.out.block b hb (by omega)
  clear hb5 hs5 K6 K46 ho5 HS4 HRX4 HRY4 HK4 HCp
  go_wp2_with fail
  have hz6 : W4.heap.size ≤ (((W5.setCell ⟨S, 1, none⟩ (.int .i64 k)).setCell ⟨S, 2, none⟩ (.int .i64 q)).setCell ⟨S, 3, none⟩ (.slice a9 nn c9)).heap.size := by simpa using hz5
  generalize (((W5.setCell ⟨S, 1, none⟩ (.int .i64 k)).setCell ⟨S, 2, none⟩ (.int .i64 q)).setCell ⟨S, 3, none⟩ (.slice a9 nn c9)) = W6 at *
  clear y0 y1 y2 y3 g1 g2 g3 zS5 hz5
  have HM6 : Hid (W6.heap[w.heap.size]? = some (.cells zM 40 (0, 0))) := by
    show _ = _
    rw [← HM.out, ← HB1.out.block w.heap.size (by omega)]
    exact HQ.out w.heap.size (by omega) (by omega)
  have HN6 : Hid (W6.heap[w.heap.size + 1]? = some (.cells #[.int .i64 0, .int .i64 0, .slice none 0 0] 38 (0, 0))) := by
    show _ = _
    rw [← HN.out, ← HB1.out.block (w.heap.size + 1) (by omega)]
    exact HQ.out (w.heap.size + 1) (by omega) (by omega)
  refine out_region5 _ W6 w.heap.size (w.heap.size + 1) 40 zM C #[.int .i64 0, .int .i64 0, .slice none 0 0] #[.int .i64 k, .int .i64 q, .slice na nn nc] 68 69 _ _ ⟨_, _, _, rfl⟩ ⟨_, _, _, rfl⟩ ⟨_, _, _, rfl⟩ ⟨_, _, _, rfl⟩ ⟨_, _, _, rfl⟩ rfl (by kernel_rfl) (by kernel_rfl) (by kernel_rfl) (by kernel_rfl) (by kernel_rfl) (by kernel_rfl) (by kernel_rfl) (by kernel_rfl) (by kernel_rfl)
    (fun ty po af W' hW => run_of_loadM HC.out (g := W1.heap.size) (by rfl) (range_keep HRY6.out (hW.block _ (by omega) (by omega))))
    (fun ty po af W' hW => run_of_loadN' (g := w1.heap.size) (by rfl) (range_keep HRX6.out (hW.block _ (by omega) (by omega)))) rfl rfl (show 68 < 70 by decide) (show 69 < 70 by decide) (by decide) HM6.out HN6.out (by omega) (by rw [HC.out.1]; rfl) rfl (by rw [infoM, HC.out.1]) infoN HC.out.2 (by simp [Value.oneCell']) ?_
  simp only [Act.put, List.setIfInBounds_toArray, List.set_cons_zero, List.set_cons_succ]
  have HRM : Hid (((({ W6 with drawn := W6.drawn + 1 } : World).setCells w.heap.size 0 C.toList).setCells (w.heap.size + 1) 0 (#[Value.int .i64 k, .int .i64 q, .slice na nn nc] : Array Value).toList).rangeAt w.heap.size 0 C.toList) := bx_apart (bx_set (w := { W6 with drawn := W6.drawn + 1 }) HM6.out (by rw [HC.out.1]; exact Nat.le_refl _)) (by omega)
  have HRN : Hid (((({ W6 with drawn := W6.drawn + 1 } : World).setCells w.heap.size 0 C.toList).setCells (w.heap.size + 1) 0 (#[Value.int .i64 k, .int .i64 q, .slice na nn nc] : Array Value).toList).rangeAt (w.heap.size + 1) 0 (#[Value.int .i64 k, .int .i64 q, .slice na nn nc] : Array Value).toList) :=
    bx_set (C0 := #[.int .i64 0, .int .i64 0, .slice none 0 0]) (t := 38) (by rw [heap_sets (by omega)]; exact HN6.out) (by simp)
  have hKe : Keeps (fun x => x = w.heap.size ∨ x = w.heap.size + 1) W6 ((({ W6 with drawn := W6.drawn + 1 } : World).setCells w.heap.size 0 C.toList).setCells (w.heap.size + 1) 0 (#[Value.int .i64 k, .int .i64 q, .slice na nn nc] : Array Value).toList) :=
    (Keeps.setCells (w := W6) (w1 := { W6 with drawn := W6.drawn + 1 }) ⟨rfl, rfl, rfl, Nat.le_refl _, fun _ _ _ => rfl⟩ _ 0 _ (.inl (.inl rfl))).setCells _ 0 _ (.inl (.inr rfl))
  have HS9 := hide (HS6.out.keep hKe (by omega))
  have hK19 := HK16.out.trans hKe (fun b hb h => by omega)
  have HR9 := hide (HRk.out C k q _ W.heap.size W1 _ _ hK19 (fun x hx h => by omega) HR.out)
  have HKw : Hid (Keeps (fun x => x = S) w ((({ W6 with drawn := W6.drawn + 1 } : World).setCells w.heap.size 0 C.toList).setCells (w.heap.size + 1) 0 (#[Value.int .i64 k, .int .i64 q, .slice na nn nc] : Array Value).toList)) := (Keeps.of_below (HBW2.out.trans (HB1.out.mono (by omega))) (fun x => x = S)).trans hK19 (fun b hb h => by omega)
  clear hKe hK19
  generalize ((({ W6 with drawn := W6.drawn + 1 } : World).setCells w.heap.size 0 C.toList).setCells (w.heap.size + 1) 0 (#[Value.int .i64 k, .int .i64 q, .slice na nn nc] : Array Value).toList) = W9 at *
  go_wp2_with fail
  exact bodyPost_ret (v := .tuple #[.agg C, .agg #[.int .i64 k, .int .i64 q, .slice na nn nc], .bool true]) (res_cells3 Tryz.results19 _ W9 w.heap.size (w.heap.size + 1) C _ _ rfl rfl rfl HRM.out HRN.out Tryz.underlying40 rfl (by rw [infoM, HC.out.1]) Tryz.underlying38 rfl infoN) rfl ⟨C, k, q, _, rfl, ⟨W.heap.size, by omega, HR9.out⟩, ⟨a9, c9, nn, HS9.out⟩, HKw.out⟩
end
end Go.Proofs.YtflhohfeahcnfaaGreatDoor
