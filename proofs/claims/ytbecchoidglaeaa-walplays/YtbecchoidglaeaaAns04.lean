/- Layer 4's example 'answers'. -/
import Derived.Test.YtbecchoidglaeaaGCalm
import Derived.Lib.SlBytesConst
namespace Go.Proofs.Ytbecchoidglaeaa
open Go.RowKit
set_option maxRecDepth 100000

theorem hi_cells (w : World) (i : Nat) (hi : i < 2) : (w.alloc (Obj.cells #[Value.int .u8 104, Value.int .u8 105] 5 (2, 3))).cell? ⟨w.heap.size, 0 + i, none⟩ = some (.int .u8 ((104 + i : Nat) : Int)) := by
  rw [World.cell?_alloc_mark]
  match i, hi with
  | 0, _ | 1, _ => rfl
theorem RowsRd.first {w : World} {v : Value} {L : Nat → Nat} {G : Nat → Nat → Nat} (h : RowsRd w v 1 L G) : ∃ g c b d, v = .slice (some ⟨g, 0, none⟩) 1 c ∧ w.cell? ⟨g, 0, none⟩ = some (.slice b (L 0) d) ∧ Rw w b (L 0) (G 0) := by
  obtain ⟨a, c, rfl, _, hp⟩ := h
  obtain ⟨g, rfl, hc⟩ := hp (by omega)
  obtain ⟨b, d, h1, h2⟩ := hc 0 (by omega)
  exact ⟨g, c, b, d, rfl, h1, h2⟩
/-- What a new log of 40 sectors with the entry hi is. -/
theorem ans_plain {s t : St} (hs : s = (openSt (St.made 40)).1) (ht : t = (s.lay 21 (ent 1 (fun i => 104 + i) 2) (cnt 2)).1) :
    Calm s ∧ s.n = 40 ∧ Calm t ∧ t.n = 40 ∧ (openSt t).2 = 0 ∧ (openSt t).1.n = 40 ∧ genOf t = 1 ∧ (prep t).1 = t ∧ scanK t 21 (40 : Int) 1 = 1 ∧ lenAt t 21 = 2 ∧ ∀ j, j < 2 → runs t 22 j = 104 + j := by
  obtain ⟨h1, h2, h3, h4, h5⟩ := calm_new 40 (by omega)
  rw [← hs] at h2 h3 h5
  obtain ⟨l1, l2, l3, l4⟩ := calm_lay h2 21 1 (fun i => 104 + i) 2 (fun i hi => by show 104 + i < 256; omega)
  have ln := lay_n s 21 1 (fun i => 104 + i) 2
  rw [← ht] at l2 l3 l4 ln
  have c2 : cnt 2 = 2 := by decide
  have s1 : supAt t 1 = 1 := supAt_yes (by omega) (by omega) rfl (fun j hj => by rw [l3 1 (by omega), h5 1 j hj, if_pos rfl])
  have s0 : supAt t 0 = 0 := supAt_no' (by
    have e : num (t.now 0) = 0 := by rw [num_congr (g := fun _ => 0) (fun i hi => by rw [l3 0 (by omega), h5 0 i (by omega), if_neg (by omega)])]; simp [num]
    omega)
  have gt : genAt t = 1 := by unfold genAt; rw [s0, s1]; rfl
  have tn : t.n = 40 := by omega
  obtain ⟨o1, o2, o3, o4, o5, o6, _⟩ := calm_open l2 gt (by omega)
  have ef : fromOf t.n 1 = 21 := by rw [tn]; decide
  have et : toOf t.n 1 = 40 := by rw [tn]; decide
  have eh : half t.n = 19 := by rw [tn]; decide
  have z := z_one (s := t) (g := 1) (f := fun i => 104 + i) (len := 2) (by omega) (by omega) (by omega) (by rw [eh]; omega) (by rw [ef]; exact l4) (fun i hi hi2 j hj => by rw [ef] at hi; rw [l3 i (by omega), h5 i j hj, if_neg (by omega)])
  rw [ef, et] at z
  exact ⟨h2, h3, l2, tn, o3, by omega, o1, by rw [o2], z.1, z.2.2.1, z.2.2.2⟩
set_option maxHeartbeats 3200000 in
theorem answers_any (w : World) :
    Calls Try.prog 9 #[] w fun e w' => e = .returned (.bool true) ∧ Below w.heap.size w w' := by
  have kc := fun (w : World) (C : Array Value) (n c : Nat) => Lib.run_convert_bytes_const (P := Try.prog) w 37 5 C n c Try.underlying37 Try.underlying5
  obtain ⟨s, hs⟩ : ∃ s, s = (openSt (St.made 40)).1 := ⟨_, rfl⟩
  obtain ⟨t, ht⟩ : ∃ t, t = (s.lay 21 (ent 1 (fun i => 104 + i) 2) (cnt 2)).1 := ⟨_, rfl⟩
  have HP := hide (ans_plain hs ht)
  have HS := hide hs
  have HT := hide ht
  have HO := hide (calm_new 40 (by omega))
  have hfo : fromOf 40 1 = 21 := by decide
  rw [hfo] at HO
  clear hs ht hfo
  go_enter Try.func9, Try.ntmps9
  go_wp2_with fail
  refine (new_any 40 _ (by omega)).mono ?_
  rintro e w1 ⟨D, F, rfl, hd, hF, hb⟩
  rw [show (clamp 40 1024).toNat = 40 from rfl] at hd
  have HD := hide hd
  have HF := hide hF
  have HB := hide hb
  clear hd hF hb
  go_wp2_with fail
  refine (open_ok HD.out (bts_made 40) (by show 4 ≤ 40; omega) (by show 40 ≤ 1024; omega) (by show 0 < 600000; omega) HO.out.1).mono ?_
  rintro e w2 ⟨B, v, rfl, F2, hp2, hst2, hB2, _⟩
  rw [HO.out.2.2.2.1, ← HS.out] at hp2
  have HP2 := hide hp2
  have HS2 := hide (hst2.below (B := w.heap.size) HB.out.size HF.out)
  have HBB : Hid (w.heap.size ≤ B) := Nat.le_trans HB.out.size hB2
  clear hp2 hst2 hB2
  go_wp2_with fail
  have hb3 : Below w2.heap.size w2 (w2.alloc (Obj.cells #[Value.int .u8 104, Value.int .u8 105] 5 (2, 3))) := (Below.refl _ _).alloc (Nat.le_refl _) _
  have HB3 := hide hb3
  clear hb3
  refine (append_calm (HP2.out.later HB3.out) HP.out.1 rfl (by rw [HP.out.2.1]; omega) (by rw [HP.out.2.1]; omega) (by show 1 ≤ 2147483647; omega) _ 2 _ (fun i => 104 + i) (by omega) (by omega) ⟨by decide, fun _ => ⟨_, _, rfl, fun i hi => hi_cells w2 i hi⟩⟩ (fun i hi => by show 104 + i < 256; omega) (fun x hx _ hf => by injection hx with hx; subst hx; have := HP2.out.d.lt _ hf; simp at this) (by rw [HP.out.2.1]; decide)).mono ?_
  rintro e w3 ⟨rfl, F3, hp3, hst3⟩
  have hp3' : PLog w3 B D ⟨1, 21 + cnt 2, false⟩ t F3 := by rw [HT.out]; exact hp3
  have HP3 := hide hp3'
  have hF2 : ∀ b, F2 b → w.heap.size ≤ b := HS2.out.2.1
  have HS3 := hide (hst3.below (B0 := w.heap.size) (by have := HS2.out.2.2; have := HB3.out.size; omega) hF2 HBB.out)
  have HBel3 : Hid (Below w.heap.size w w3) := (HB.out.trans HS2.out.1).trans ((below_le HB3.out HS2.out.2.2).trans HS3.out.1)
  clear hp3 hp3' hst3 hF2
  go_wp2_with fail
  refine (open_ok HP3.out.d HP.out.2.2.1.bts (by rw [HP.out.2.2.2.1]; omega) (by rw [HP.out.2.2.2.1]; omega) (by rw [lo_calm HP.out.2.2.1]; omega) HP.out.2.2.2.2.1).mono ?_
  rintro e w4 ⟨B4, v4, rfl, F4, hp4, hst4, hB4, hrows⟩
  unfold ORows at hrows
  rw [HP.out.2.2.2.1, HP.out.2.2.2.2.2.2.1, HP.out.2.2.2.2.2.2.2.1, show fromOf 40 1 = 21 from by decide, show toOf 40 1 = 40 from by decide] at hrows
  have hk1 : scanK t 21 ((40 : Nat) : Int) 1 = 1 := HP.out.2.2.2.2.2.2.2.2.1
  rw [hk1] at hrows
  obtain ⟨g, c, b, d, rfl, hgc, hrw⟩ := hrows.first
  have hp0 : lenAt t (pos t 21 0) = 2 := HP.out.2.2.2.2.2.2.2.2.2.1
  rw [hp0] at hgc hrw
  obtain ⟨bb, off, rfl, hcc⟩ := hrw.2 (by omega)
  have r0 : w4.cell? ⟨bb, off, none⟩ = some (.int .u8 104) := by
    have := hcc 0 (by omega)
    rw [Nat.add_zero] at this
    rw [this, show runs t (pos t 21 0 + 1) 0 = 104 from HP.out.2.2.2.2.2.2.2.2.2.2 0 (by omega)]; rfl
  have r1 : w4.cell? ⟨bb, off + 1, none⟩ = some (.int .u8 105) := by
    rw [hcc 1 (by omega), show runs t (pos t 21 0 + 1) 1 = 105 from HP.out.2.2.2.2.2.2.2.2.2.2 1 (by omega)]; rfl
  have ks : (convert 37 9 (.slice (some ⟨bb, off, none⟩) 2 d)).run Try.prog w4 = .ok (.string ⟨#[104, 105]⟩) w4 :=
    run_convert_bytes_back w4 37 9 5 ⟨bb, off, none⟩ d [104, 105] Try.underlying37 Try.underlying5 Try.underlying9 (fun j hj => by
      match j, hj with
      | 0, _ => rw [Addr.add_mid]; exact r0
      | 1, _ => rw [Addr.add_mid]; exact r1)
  have HL4 : Hid (PLog w4 B D ⟨1, 21 + cnt 2, false⟩ (openSt t).1 F4) := HP3.out.step hp4.d hst4
  have HB4 : Hid (Below w.heap.size w w4) := HBel3.out.trans (hst4.below (B := w.heap.size) HS3.out.2.2 HS3.out.2.1).1
  clear r0 r1 hcc hrw hrows hp4 hst4 hB4 hk1 hp0
  go_wp2_with fail
  refine (gen_in HL4.out.l).mono ?_
  rintro e w5 ⟨rfl, hw5⟩
  subst hw5
  rw [show (((⟨1, 21 + cnt 2, false⟩ : Lg).gen : Nat) : Int) = 1 from rfl]
  go_wp2_with fail
  refine (used_in HL4.out (by rw [HP.out.2.2.2.2.2.1]; omega) (by rw [HP.out.2.2.2.2.2.1]; omega) (by rw [HP.out.2.2.2.2.2.1]; decide)).mono ?_
  rintro e w6 ⟨rfl, k6, rfl⟩
  rw [HP.out.2.2.2.2.2.1, show (((⟨1, 21 + cnt 2, false⟩ : Lg).at_ : Nat) : Int) - ((fromOf 40 (⟨1, 21 + cnt 2, false⟩ : Lg).gen : Nat) : Int) = 2 from by decide]
  go_wp2
  go_ret
  exact ⟨rfl, below_drewN HB4.out k6⟩
end Go.Proofs.Ytbecchoidglaeaa
