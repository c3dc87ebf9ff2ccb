/- The document's body of a NOTIFICATION, and its Message. -/
import Derived.Test.YtflhohfeahcnfaaGreatDoorHRm
import Derived.Test.YtflhohfeahcnfaaGreatDoorHSb
import Derived.Test.YtflhohfeahcnfaaGreatDoorHMx
namespace Go.Proofs.YtflhohfeahcnfaaGreatDoor
open Go.RowKit
set_option maxRecDepth 100000

theorem own_bytes2 (w : World) (B c s : Nat) (hB : B ≤ w.heap.size) : (w.alloc (.cells #[.int .u8 (c : Int), .int .u8 (s : Int)] 5)).ownsRow B 5 1 (.slice (some ⟨w.heap.size, 0, none⟩) 2 2) [c, s].length (bcells [c, s]) :=
  ⟨rfl, .inr ⟨w.heap.size, 2, #[.int .u8 (c : Int), .int .u8 (s : Int)], rfl, hB, by unfold World.alloc; exact Array.getElem?_push_size, Nat.le_refl _, by unfold maxLen; omega, rfl, rfl⟩⟩
set_option maxHeartbeats 4000000 in
theorem rbody_note (c s n cap : Nat) (a : Option Addr) (d : List Nat) (w : World) (hc : c < 256) (hs : s < 256) (hn : d.length = n) (hl : n ≤ 4000) (h : BRd w a d) :
    Calls Tryz.prog 34 #[.agg (msgC 3 (c : Int) (s : Int) (.slice a n cap))] w fun e w' => ∃ v, e = .returned (.tuple #[v, .bool true]) ∧ w'.ownsRow w.heap.size 5 1 v ([c, s] ++ d).length (bcells ([c, s] ++ d)) ∧ Below w.heap.size w w' := by
  have hcc : IntKind.u8.wrap (c : Int) = (c : Int) := by rw [IntKind.wrap_u8]; omega
  have hss : IntKind.u8.wrap (s : Int) = (s : Int) := by rw [IntKind.wrap_u8]; omega
  have HH := hide h
  have HN := hide hn
  clear h hn
  unfold msgC
  go_enter Tryz.func34, Tryz.ntmps34
  go_wp2_with fail
  have hbw : Below w.heap.size w ((w.alloc (.cells #[.int .i64 3, .int .i64 0, .int .i64 0, .int .u32 0, .bool false, .int .i64 0, .bool false, .bool false, .int .i64 0, .bool false, .bool false, .bool false, .int .i64 0, .slice none 0 0, .int .i64 0, .slice none 0 0, .int .u32 0, .int .i64 0, .int .i64 0, .slice none 0 0, .slice none 0 0, .slice none 0 0, .int .i64 (c : Int), .int .i64 (s : Int), .slice a n cap] 40)).alloc (.cells #[.int .i64 (c : Int), .int .i64 (s : Int), .slice a n cap] 38)) := ((Below.refl _ _).alloc (Nat.le_refl _) _).alloc (by simp) _
  have hx : ((w.alloc (.cells #[.int .i64 3, .int .i64 0, .int .i64 0, .int .u32 0, .bool false, .int .i64 0, .bool false, .bool false, .int .i64 0, .bool false, .bool false, .bool false, .int .i64 0, .slice none 0 0, .int .i64 0, .slice none 0 0, .int .u32 0, .int .i64 0, .int .i64 0, .slice none 0 0, .slice none 0 0, .slice none 0 0, .int .i64 (c : Int), .int .i64 (s : Int), .slice a n cap] 40)).alloc (.cells #[.int .i64 (c : Int), .int .i64 (s : Int), .slice a n cap] 38)).heap[w.heap.size + 1]? = some (.cells #[.int .i64 (c : Int), .int .i64 (s : Int), .slice a n cap] 38 (0, 0)) := by
    have h9 := heap_alloc_new (w.alloc (.cells #[.int .i64 3, .int .i64 0, .int .i64 0, .int .u32 0, .bool false, .int .i64 0, .bool false, .bool false, .int .i64 0, .bool false, .bool false, .bool false, .int .i64 0, .slice none 0 0, .int .i64 0, .slice none 0 0, .int .u32 0, .int .i64 0, .int .i64 0, .slice none 0 0, .slice none 0 0, .slice none 0 0, .int .i64 (c : Int), .int .i64 (s : Int), .slice a n cap] 40)) (.cells #[.int .i64 (c : Int), .int .i64 (s : Int), .slice a n cap] 38)
    rw [World.size_alloc] at h9
    exact h9
  generalize ((w.alloc (.cells #[.int .i64 3, .int .i64 0, .int .i64 0, .int .u32 0, .bool false, .int .i64 0, .bool false, .bool false, .int .i64 0, .bool false, .bool false, .bool false, .int .i64 0, .slice none 0 0, .int .i64 0, .slice none 0 0, .int .u32 0, .int .i64 0, .int .i64 0, .slice none 0 0, .slice none 0 0, .slice none 0 0, .int .i64 (c : Int), .int .i64 (s : Int), .slice a n cap] 40)).alloc (.cells #[.int .i64 (c : Int), .int .i64 (s : Int), .slice a n cap] 38)) = W at *
  have hz : w.heap.size + 1 < W.heap.size := (Array.getElem?_eq_some_iff.1 hx).1
  have xc : ∀ W', Below W.heap.size W W' → W'.cell? ⟨w.heap.size + 1, 0, none⟩ = some (.int .i64 (c : Int)) ∧ W'.cell? ⟨w.heap.size + 1, 1, none⟩ = some (.int .i64 (s : Int)) ∧ W'.cell? ⟨w.heap.size + 1, 2, none⟩ = some (.slice a n cap) := fun W' hb => by
    have h9 := (nt_of3 (W := W') (by rw [hb.block _ hz]; exact hx)).1
    exact h9
  have d1 : decide ((0 : Int) ≤ (c : Int)) = true := decide_eq_true (by omega)
  have d2 : decide ((c : Int) ≤ 255) = true := decide_eq_true (by omega)
  have d3 : decide ((0 : Int) ≤ (s : Int)) = true := decide_eq_true (by omega)
  have d4 : decide ((s : Int) ≤ 255) = true := decide_eq_true (by omega)
  have i1 : (0 : Int) ≤ (c : Int) := by omega
  have i2 : (c : Int) ≤ 255 := by omega
  have i3 : (0 : Int) ≤ (s : Int) := by omega
  have i4 : (s : Int) ≤ 255 := by omega
  have b1 : Below W.heap.size W (W.drew.alloc (.cells #[.int .u8 (c : Int), .int .u8 (s : Int)] 5)) := (Below.refl _ _).drew.alloc (Nat.le_refl _) _
  obtain ⟨v', w', hr, ho', hg', _⟩ := app_grow d a cap (own_bytes2 W.drew W.heap.size c s (Nat.le_refl _)) b1.size (by simp [HN.out]; omega) ((HH.out.below hbw).below b1)
  have hb' := grown_below (own_bytes2 W.drew W.heap.size c s (Nat.le_refl _)) b1.size hg'
  rw [HN.out] at hr
  have b2 := b1.trans hb'
  refine region_ord (fun W' => Below W.heap.size W W') (fun k => k == 6 || k == 9) [0, 1, 2, 3, 4, 5, 7, 8, 10, 11, 12, 6, 9, 13, 14, 15, 16, 17, 18, 19, 20, 21, 22, 23, 24, 25, 26, 27, 28, 29] (by kernel_rfl) (by kernel_rfl) (by rfl) (by kernel_rfl) (Below.refl _ _).drew ?_
  repeat refine ord_q (by rfl) (by rfl) (by rfl) (fun w9 h9 => (by obtain ⟨s0, s1, s2⟩ := xc w9 h9; clear h9; go_simp; first | done | rfl)) (by go_simp; first | done | rfl) ?_
  refine ord_l (by rfl) (by rfl) (by rfl) ?_
  go_simp
  refine ⟨b1, ?_⟩
  refine ord_l (by rfl) (by rfl) (by rfl) ?_
  refine opwp_app _ _ _ _ _ (by rfl) (by rfl) hr ?_
  refine ⟨b2, ?_⟩
  repeat refine ord_q (by rfl) (by rfl) (by rfl) (fun w9 h9 => (by obtain ⟨s0, s1, s2⟩ := xc w9 h9; clear h9; go_simp; first | done | rfl)) (by go_simp; first | done | rfl) ?_
  refine ⟨fun _ h => (by cases h), ?_⟩
  obtain ⟨va, vc, rfl⟩ := own_shape ho'
  have HO := hide (own_low (B' := w.heap.size) ho' (by omega))
  have HB := hide (hbw.trans (b2.mono (by omega)))
  clear hr ho' hg' hb' b1 b2 xc
  go_wp2
  exact bodyPost_ret (v := .tuple #[.slice va ([c, s] ++ d).length vc, .bool true]) (by simp [results, Tryz.results34, go_sem]) rfl ⟨_, rfl, HO.out, HB.out⟩
end Go.Proofs.YtflhohfeahcnfaaGreatDoor
