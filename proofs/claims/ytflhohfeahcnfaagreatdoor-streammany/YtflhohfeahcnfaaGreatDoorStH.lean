/- NOTIFICATIONs: the document's bytes, and how they come. -/
import Derived.Test.YtflhohfeahcnfaaGreatDoorRmC
import Derived.Test.YtflhohfeahcnfaaGreatDoorHSf
import Derived.Test.YtflhohfeahcnfaaGreatDoorMgD6
namespace Go.Proofs.YtflhohfeahcnfaaGreatDoor
open Go.RowKit
set_option maxRecDepth 100000

/-- A NOTIFICATION's bytes. -/
def noteB (c s : Nat) (d : List Nat) : List Nat := ff16 ++ [(21 + d.length) / 256, (21 + d.length) % 256, 3] ++ ([c, s] ++ d)
theorem noteB_length (c s : Nat) (d : List Nat) : (noteB c s d).length = 21 + d.length := by simp [noteB, ff16]; omega
theorem noteB_lt {c s : Nat} {d : List Nat} (hc : c < 256) (hs : s < 256) (hd : ∀ x ∈ d, x < 256) (hl : d.length ≤ 4000) : ∀ x ∈ noteB c s d, x < 256 := by
  intro x hx
  simp only [noteB, List.mem_append, List.mem_cons, List.not_mem_nil, or_false] at hx
  rcases hx with (hx | rfl | rfl | rfl) | (rfl | rfl) | hx
  · have := (List.mem_replicate.1 hx).2; omega
  · omega
  · omega
  · omega
  · exact hc
  · exact hs
  · exact hd x hx
theorem noteB_get (c s : Nat) (d r : List Nat) : (noteB c s d ++ r).getD 16 0 = (21 + d.length) / 256 ∧ (noteB c s d ++ r).getD 17 0 = (21 + d.length) % 256 ∧ (noteB c s d ++ r).getD 18 0 = 3 ∧ (noteB c s d ++ r).getD 19 0 = c ∧ (noteB c s d ++ r).getD 20 0 = s := by
  have e : noteB c s d ++ r = ff16 ++ ([(21 + d.length) / 256, (21 + d.length) % 256, 3, c, s] ++ d ++ r) := by simp [noteB]
  rw [e]
  have hf : ff16.length = 16 := rfl
  have g : ∀ i, (ff16 ++ ([(21 + d.length) / 256, (21 + d.length) % 256, 3, c, s] ++ d ++ r)).getD (16 + i) 0 = ([(21 + d.length) / 256, (21 + d.length) % 256, 3, c, s] ++ d ++ r).getD i 0 := fun i => by
    rw [List.getD_eq_getElem?_getD, List.getD_eq_getElem?_getD, List.getElem?_append_right (by rw [hf]; omega), hf, show 16 + i - 16 = i from by omega]
  exact ⟨g 0, g 1, g 2, g 3, g 4⟩
theorem noteB_head (c s : Nat) (d r : List Nat) (hl : d.length ≤ 4000) : headM (noteB c s d ++ r) = (21 + d.length, 0, 0, []) := by
  obtain ⟨g0, g1, g2, _, _⟩ := noteB_get c s d r
  have hz : hdSize (noteB c s d ++ r) = 21 + d.length := by unfold hdSize; rw [g0, g1]; omega
  have hk : hdKind (noteB c s d ++ r) = 3 := g2
  have hlen : (noteB c s d ++ r).length = 21 + d.length + r.length := by rw [List.length_append, noteB_length]
  have ht : (noteB c s d ++ r).take 16 = List.replicate 16 255 := by
    have e : noteB c s d ++ r = ff16 ++ ([(21 + d.length) / 256, (21 + d.length) % 256, 3, c, s] ++ d ++ r) := by simp [noteB]
    rw [e, List.take_append_of_le_length (by decide)]
    rfl
  rw [headM_good (by omega) (by rw [ht]; simp) (by rw [hz]; omega) (by rw [hk]; omega) (by rw [hk, hz]; simp [leastOf, mostOf]; omega), hz]
theorem noteB_drop (c s : Nat) (d : List Nat) : (noteB c s d).drop 21 = d := by
  have e : noteB c s d = (ff16 ++ [(21 + d.length) / 256, (21 + d.length) % 256, 3, c, s]) ++ d := by simp [noteB]
  rw [e, List.drop_left' (by rfl)]
theorem rmsg_note (c s n cap : Nat) (a : Option Addr) (d : List Nat) (w : World) (hc : c < 256) (hs : s < 256) (hn : d.length = n) (hl : n ≤ 4000) (h : BRd w a d) :
    Calls Tryz.prog 14 #[.agg (msgC 3 (c : Int) (s : Int) (.slice a n cap))] w fun e w' => ∃ v, e = .returned v ∧ w'.ownsRow w.heap.size 5 1 v (21 + n) (bcells (noteB c s d)) ∧ Below w.heap.size w w' := by
  refine (rmsg_any 3 (msgC 3 (c : Int) (s : Int) (.slice a n cap)) ([c, s] ++ d) (n + 2) w (MC.msg 3 c s a n cap) rfl (by decide) (by simp [hn]) (by omega) (fun o => ?_)).mono ?_
  · refine (rbody_note c s n cap a d (w.alloc o) hc hs hn hl (h.below ((Below.refl _ _).alloc (Nat.le_refl _) _))).mono ?_
    rintro e w' ⟨v, rfl, ho, hb⟩
    have hx : ∀ x ∈ [c, s] ++ d, x < 256 := fun x hx => by
      simp only [List.cons_append, List.nil_append, List.mem_cons] at hx
      rcases hx with rfl | rfl | hx
      · exact hc
      · exact hs
      · exact h.2 x hx
    have e2 : ([c, s] ++ d).length = n + 2 := by simp [hn]
    obtain ⟨a9, c9, rfl, _, hr⟩ := own_brd ho (by rw [e2]; omega) hx
    rw [e2]
    exact ⟨a9, c9, rfl, hr, hb⟩
  · rintro e w' ⟨v, rfl, ho, hb⟩
    have e1 : ff16 ++ [(19 + (n + 2)) / 256, (19 + (n + 2)) % 256, 3] ++ ([c, s] ++ d) = noteB c s d := by
      unfold noteB
      rw [hn, show 19 + (n + 2) = 21 + n from by omega]
    rw [e1, noteB_length, hn] at ho
    exact ⟨v, rfl, ho, hb⟩
/-- What Decode answers of a NOTIFICATION. -/
def RNt (c s n : Nat) (d : List Nat) (C : Array Value) (k q : Int) (v : Value) (B : Nat) (W : World) : Prop := (∃ a8 c8, C = msgC 3 (c : Int) (s : Int) (.slice a8 n c8) ∧ W.ownsRow B 5 1 (.slice a8 n c8) n (bcells d)) ∧ k = 0 ∧ q = 0 ∧ ∃ va vn vc, v = .slice va vn vc
/-- A NOTIFICATION that waits, ahead of whatever. -/
theorem next_note (S g o m cp c s n : Nat) (d r : List Nat) (sq : Int) (dv : Value) (w : World) (h : StrAt w S (.slice (some ⟨g, o, none⟩) m cp) 0 sq dv) (hm : (noteB c s d ++ r).length = m) (hml : m ≤ 100000) (hcap : m ≤ cp) (hb : BRd w (some ⟨g, o, none⟩) (noteB c s d ++ r)) (hS : SaidM w) (hn : d.length = n) (hl : n ≤ 4000) :
    Calls Tryz.prog 19 #[.pointer (some ⟨S, 0, none⟩)] w fun e w' => ∃ C v, e = .returned (.tuple #[.agg C, .agg #[.int .i64 0, .int .i64 0, v], .bool true]) ∧ Hid (∃ B, w.heap.size ≤ B ∧ RNt c s n d C 0 0 v B w') ∧ Hid (∃ d', StrAt w' S (restV g o m cp (21 + n)) 0 0 d') ∧ Hid (Keeps (fun x => x = S) w w') := by
  have hz : 21 + n ≤ m := by rw [← hm, List.length_append, noteB_length, hn]; omega
  have hbt : BRd w (some ⟨g, o, none⟩) (noteB c s d) := by
    have h9 := brd_take hb (21 + n)
    rwa [List.take_left' (by rw [noteB_length, hn])] at h9
  have hg := noteB_get c s d []
  rw [List.append_nil] at hg
  have hh := noteB_head c s d [] (by omega)
  rw [List.append_nil, hn] at hh
  refine (next_whole (RNt c s n d) (fun C k q v B W1 W2 F hk hF hR => ?_) S g o m cp (21 + n) (noteB c s d ++ r) sq dv w h hm hml hcap hb hS (by rw [noteB_head c s d r (by omega), hn]) (by omega) hz (fun W hW => ?_)).mono ?_
  · obtain ⟨⟨a8, c8, e8, ho⟩, rest⟩ := hR
    exact ⟨⟨a8, c8, e8, own_keep ho hk hF⟩, rest⟩
  · refine (dec_note g o (21 + n) cp (noteB c s d) W (by rw [noteB_length, hn]) (by omega) (by omega) (by omega) (hbt.below hW) (hS.below hW) hh hg.2.2.1).mono ?_
    rintro e W' ⟨⟨a8, c8, a9, c9, rfl, ho⟩, hb9⟩
    rw [noteB_drop, show 21 + n - 19 - 2 = n from by omega] at ho
    rw [hg.2.2.2.1, hg.2.2.2.2, show 21 + n - 19 - 2 = n from by omega]
    exact ⟨_, 0, 0, a9, 0, c9, [], rfl, MC.msg 3 c s a8 n c8, ⟨rfl, by omega, by simp, fun h => absurd rfl h⟩, ⟨⟨a8, c8, rfl, ho⟩, rfl, rfl, _, _, _, rfl⟩, hb9⟩
  · rintro e w' ⟨C, k, q, v, rfl, ⟨B, hB, hR⟩, ⟨a9, c9, nn, hs⟩, hk⟩
    obtain ⟨hR1, rfl, rfl, hR4⟩ := hR
    exact ⟨C, v, rfl, ⟨B, hB, hR1, rfl, rfl, hR4⟩, ⟨_, hs⟩, hk⟩
end Go.Proofs.YtflhohfeahcnfaaGreatDoor
