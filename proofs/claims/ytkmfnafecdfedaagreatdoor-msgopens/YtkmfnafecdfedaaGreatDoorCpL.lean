/- What is written is read again; one by one; cut off; what is read is good. Nothing of the program is named here. -/
import Derived.Test.YtkmfnafecdfedaaGreatDoorHCp
namespace Go.Proofs.YtkmfnafecdfedaaGreatDoor

theorem numB_four (a b c d : Nat) : numB [a, b, c, d] = ((a * 256 + b) * 256 + c) * 256 + d := by simp [numB]
theorem numB_by4 (v : Nat) (h : v < 4294967296) : numB (by4 v) = v := by
  rw [by4_eq, numB_four]
  omega
theorem readc_four (c d : Cp) (h : gFour c = true) (hf : d.four = false) (ha : d.as4 = 0) (rest : List Nat) : eachC readOne (eFour c ++ rest) d = eachC readOne rest { d with four := c.four, as4 := c.as4 } := by
  unfold eFour
  cases hc : c.four with
  | false =>
    have h0 := gFour_no h hc
    have e : ({ d with four := false, as4 := c.as4 } : Cp) = d := by rw [h0, ← hf, ← ha]
    rw [e]; rfl
  | true =>
    have h1 := gFour_yes h hc
    have hn : numB (vFour c) = c.as4.toNat := numB_by4 _ (by omega)
    rw [if_pos rfl, eachC_tlv]
    have e : readOne 65 (vFour c) d = some { d with four := true, as4 := c.as4 } := by
      unfold readOne
      rw [if_pos rfl, if_pos ⟨vFour_length c, by rw [hn]; omega⟩]
      unfold putFour
      rw [hn, Int.toNat_of_nonneg (by omega)]
    rw [e]; rfl
theorem fst_vLL (c : Cp) : fstU 7 (vLL c) = some (vLL c) := by
  rw [fstU_hit (by rw [vLL_length]; omega) (by rw [vLL_eq]; rfl), List.take_of_length_le (by rw [vLL_length]; omega)]
theorem read_ll (c d : Cp) (h : gLL c = true) (hf : d.ll = false) (ha : d.lt = 0) (rest : List Nat) : eachC readOne (eLL c ++ rest) d = eachC readOne rest { d with ll := c.ll, lt := c.lt } := by
  unfold eLL
  cases hc : c.ll with
  | false =>
    have h0 := gLL_no h hc
    have e : ({ d with ll := false, lt := c.lt } : Cp) = d := by rw [h0, ← hf, ← ha]
    rw [e]; rfl
  | true =>
    have h1 := gLL_yes h hc
    rw [if_pos rfl, eachC_tlv]
    have e : readOne 71 (vLL c) d = some { d with ll := true, lt := c.lt } := by
      unfold readOne
      rw [if_neg (by omega), if_neg (by omega), if_pos rfl, if_pos (by rw [vLL_length])]
      unfold putLL
      rw [fst_vLL]
      have e2 : ltCp (some (vLL c)) = c.lt.toNat := by
        show (vLL c).getD 4 0 * 65536 + (vLL c).getD 5 0 * 256 + (vLL c).getD 6 0 = _
        rw [vLL_eq]
        simp
        omega
      rw [e2, Int.toNat_of_nonneg (by omega)]
      rfl
    rw [e]; rfl
theorem read_gr (c d : Cp) (h : gGR c = true) (h1 : d.gr = false) (h2 : d.rs = false) (h3 : d.tm = 0) (h4 : d.fam = false) (h5 : d.fwd = false) (rest : List Nat) :
    eachC readOne (eGR c ++ rest) d = eachC readOne rest { d with gr := c.gr, rs := c.rs, tm := c.tm, fam := c.fam, fwd := c.fwd } := by
  unfold eGR
  cases hc : c.gr with
  | false =>
    obtain ⟨k1, k2, k3⟩ := gGR_no h hc
    have k4 := gGR_fwd h k3
    have e : ({ d with gr := false, rs := c.rs, tm := c.tm, fam := c.fam, fwd := c.fwd } : Cp) = d := by rw [k1, k2, k3, k4]; obtain ⟨_, _, _, _, _, _, _, _, _⟩ := d; simp only at *; subst h1 h2 h3 h4 h5; rfl
    rw [e]; rfl
  | true =>
    have ht := gGR_tm h
    rw [if_pos rfl, eachC_tlv]
    have e : readOne 64 (vGR c) d = some { d with gr := true, rs := c.rs, tm := c.tm, fam := c.fam, fwd := c.fwd } := by
      unfold readOne
      rw [if_neg (by omega), if_pos rfl, if_pos (by rw [vGR_length]; split <;> rfl)]
      unfold putGR
      have e1 : (vGR c).drop 2 = famGR c := rfl
      have e2 : (vGR c).getD 0 0 = headGR c / 256 := rfl
      have e3 : (vGR c).getD 1 0 = headGR c % 256 := rfl
      have hl := headGR_lt h
      have e4 : decide (128 ≤ headGR c / 256) = c.rs := by
        cases hr : c.rs with
        | true => refine decide_eq_true ?_; unfold headGR; rw [hr, if_pos rfl]; omega
        | false => refine decide_eq_false ?_; unfold headGR; rw [hr, if_neg (by simp)]; omega
      have e5 : ((headGR c / 256 % 16 * 256 + headGR c % 256 : Nat) : Int) = c.tm := by
        have : headGR c / 256 % 16 * 256 + headGR c % 256 = c.tm.toNat := by
          unfold headGR
          split <;> omega
        rw [this, Int.toNat_of_nonneg (by omega)]
      rw [e1, e2, e3, e4, e5]
      cases hfm : c.fam with
      | false =>
        have k4 := gGR_fwd h hfm
        have e6 : fstU 4 (famGR c) = none := by unfold famGR; rw [hfm]; rfl
        rw [e6, k4]; rfl
      | true =>
        have e6 : fstU 4 (famGR c) = some [0, 1, 1, if c.fwd then 128 else 0] := by unfold famGR; rw [hfm]; rfl
        rw [e6]
        have e7 : fwdOf (some [0, 1, 1, if c.fwd then 128 else 0]) = c.fwd := by
          show decide (128 ≤ if c.fwd then 128 else 0) = _
          cases c.fwd <;> rfl
        rw [e7]; rfl
    rw [e]; rfl
/-- All that c has is read into none. -/
theorem readc_in (c : Cp) (h : goodC c = true) : eachC readOne (encIn c) cp0 = some c := by
  obtain ⟨h1, h2, h3⟩ := goodC_parts h
  unfold encIn
  rw [readc_four c _ h1 rfl rfl, read_gr c _ h2 rfl rfl rfl rfl rfl]
  have e := read_ll c { ({ cp0 with four := c.four, as4 := c.as4 } : Cp) with gr := c.gr, rs := c.rs, tm := c.tm, fam := c.fam, fwd := c.fwd } h3 rfl rfl []
  rw [List.append_nil] at e
  rw [e]
  rfl
/-- A parameter, if there is one, ahead of others. -/
theorem read_par (c d : Cp) (h : goodC c = true) (rest : List Nat) : eachC readPar (encCp c ++ rest) d = (eachC readOne (encIn c) d).bind (eachC readPar rest) := by
  unfold encCp
  rw [if_pos h]
  by_cases h0 : encIn c = []
  · rw [if_pos h0, h0]; rfl
  · rw [if_neg h0, eachC_tlv]; rfl
theorem readC_back (c : Cp) (h : goodC c = true) : readC (encCp c) = some c := by
  have e := read_par c cp0 h []
  rw [List.append_nil, readc_in c h] at e
  exact e
/-- Its parts. -/
def onlyF (c : Cp) : Cp := { cp0 with four := c.four, as4 := c.as4 }
def onlyG (c : Cp) : Cp := { cp0 with gr := c.gr, rs := c.rs, tm := c.tm, fam := c.fam, fwd := c.fwd }
def onlyL (c : Cp) : Cp := { cp0 with ll := c.ll, lt := c.lt }
theorem onlyF_good {c : Cp} (h : goodC c = true) : goodC (onlyF c) = true := by
  have h1 : gFour (onlyF c) = true := (goodC_parts h).1
  unfold goodC
  rw [h1]; rfl
theorem onlyG_good {c : Cp} (h : goodC c = true) : goodC (onlyG c) = true := by
  have h1 : gGR (onlyG c) = true := (goodC_parts h).2.1
  unfold goodC
  rw [h1]; rfl
theorem onlyL_good {c : Cp} (h : goodC c = true) : goodC (onlyL c) = true := by
  have h1 : gLL (onlyL c) = true := (goodC_parts h).2.2
  unfold goodC
  rw [h1]; rfl
theorem readC_parts (c : Cp) (h : goodC c = true) (code : Nat) (more : List Nat) (h1 : code ≠ 64) (h2 : code ≠ 65) (h3 : code ≠ 71) :
    readC (encCp (onlyL c) ++ encCp (onlyF c) ++ tlv 2 (tlv code more) ++ encCp (onlyG c)) = some c := by
  obtain ⟨k1, k2, k3⟩ := goodC_parts h
  unfold readC
  rw [List.append_assoc, List.append_assoc, read_par _ _ (onlyL_good h), readc_in _ (onlyL_good h)]
  show eachC readPar _ _ = _
  rw [read_par _ _ (onlyF_good h)]
  have eF : encIn (onlyF c) = eFour c ++ [] := by unfold encIn eGR eLL; rfl
  have e1 : eachC readOne (encIn (onlyF c)) (onlyL c) = some { onlyL c with four := c.four, as4 := c.as4 } := by rw [eF, readc_four c (onlyL c) k1 rfl rfl]; rfl
  rw [e1]
  show eachC readPar _ _ = _
  rw [eachC_tlv]
  have e2 : ∀ d, readPar 2 (tlv code more) d = some d := fun d => by
    show eachC readOne (tlv code more) d = _
    rw [← List.append_nil (tlv code more), eachC_tlv]
    unfold readOne
    rw [if_neg h2, if_neg h1, if_neg h3]; rfl
  rw [e2]
  show eachC readPar _ _ = _
  have e3 := read_par (onlyG c) { onlyL c with four := c.four, as4 := c.as4 } (onlyG_good h) []
  rw [List.append_nil] at e3
  rw [e3]
  have eG : encIn (onlyG c) = eGR c ++ [] := by
    show eFour (onlyG c) ++ (eGR (onlyG c) ++ eLL (onlyG c)) = _
    rw [show eFour (onlyG c) = [] from rfl, show eLL (onlyG c) = [] from rfl]; rfl
  have e4 : eachC readOne (encIn (onlyG c)) { onlyL c with four := c.four, as4 := c.as4 } = some c := by rw [eG, read_gr c _ k2 rfl rfl rfl rfl rfl]; rfl
  rw [e4]; rfl
theorem encCp_form {c : Cp} (h : encCp c ≠ []) : ∃ v, encCp c = tlv 2 v := by
  unfold encCp at *
  by_cases hg : goodC c = true
  · rw [if_pos hg] at *
    by_cases h0 : encIn c = []
    · rw [if_pos h0] at h; exact absurd rfl h
    · rw [if_neg h0]; exact ⟨_, rfl⟩
  · rw [if_neg hg] at h; exact absurd rfl h
theorem readC_cut (c : Cp) (h : encCp c ≠ []) (k : Nat) (hk : k < (encCp c).length) : (readC ((encCp c).take k)).isSome = decide (k = 0) := by
  obtain ⟨v, e⟩ := encCp_form h
  rw [e] at hk
  rw [e]
  by_cases h0 : k = 0
  · subst h0; rfl
  · rw [decide_eq_false h0]
    unfold readC
    have hl : ((tlv 2 v).take k).length = k := by rw [List.length_take]; omega
    rw [eachC_no (fun h9 => by rw [h9] at hl; simp at hl; omega)]
    · rfl
    · unfold okE
      rw [hl]
      refine decide_eq_false (fun h9 => ?_)
      have e1 : ((tlv 2 v).take k).getD 1 0 = v.length := by
        rw [List.getD_eq_getElem?_getD, List.getElem?_take_of_lt (by omega)]; rfl
      rw [e1] at h9
      rw [tlv_length] at hk
      omega
theorem readC_more (c : Cp) (h : encCp c ≠ []) (x : Nat) : readC (encCp c ++ [x]) = none := by
  obtain ⟨v, e⟩ := encCp_form h
  rw [e]
  unfold readC
  rw [eachC_tlv]
  have e1 : ∀ d, eachC readPar [x] d = none := fun d => eachC_no (by simp) (by simp [okE])
  cases readPar 2 v cp0 with
  | none => rfl
  | some d => exact e1 d
theorem caps_four {b : List Nat} (h : b.length = 4) : ∃ a0 a1 a2 a3, b = [a0, a1, a2, a3] := by
  match b, h with
  | [a0, a1, a2, a3], _ => exact ⟨a0, a1, a2, a3, rfl⟩
theorem getD_lt256 {b : List Nat} (hb : ∀ x ∈ b, x < 256) (i : Nat) : b.getD i 0 < 256 := by
  rw [List.getD_eq_getElem?_getD]
  by_cases h : i < b.length
  · rw [List.getElem?_eq_getElem h]; exact hb _ (List.getElem_mem h)
  · rw [List.getElem?_eq_none (by omega)]; simp
theorem firstU_mem (s : Nat) : ∀ (k : Nat) (b u : List Nat), firstU s k b = some u → ∀ x ∈ u, x ∈ b
  | 0, b, u, h => by cases h
  | k + 1, b, u, h => by
    rw [firstU] at h
    split at h
    · cases h
    · split at h
      · cases h; exact fun x hx => List.mem_of_mem_take hx
      · exact fun x hx => List.mem_of_mem_drop (firstU_mem s k _ u h x hx)
theorem ltOf_lt {b : List Nat} (hb : ∀ x ∈ b, x < 256) : ltCp (fstU 7 b) ≤ 16777215 := by
  cases h : fstU 7 b with
  | none => simp [ltCp]
  | some u =>
    have hu : ∀ x ∈ u, x < 256 := fun x hx => hb x (firstU_mem 7 _ b u h x hx)
    have k4 := getD_lt256 hu 4
    have k5 := getD_lt256 hu 5
    have k6 := getD_lt256 hu 6
    show u.getD 4 0 * 65536 + u.getD 5 0 * 256 + u.getD 6 0 ≤ _
    omega
/-- A capability that is read leaves them good. -/
theorem readOne_good (k : Nat) (b : List Nat) (c d : Cp) (hb : ∀ x ∈ b, x < 256) (hg : goodC c = true) (h : readOne k b c = some d) : goodC d = true := by
  obtain ⟨g1, g2, g3⟩ := goodC_parts hg
  unfold readOne at h
  split at h
  · split at h
    · rename_i h4
      cases h
      obtain ⟨a0, a1, a2, a3, rfl⟩ := caps_four h4.1
      have hn := h4.2
      have h0 := hb a0 (by simp)
      have h1 := hb a1 (by simp)
      have h2 := hb a2 (by simp)
      have h3 := hb a3 (by simp)
      have e1 : gFour (putFour [a0, a1, a2, a3] c) = true := by
        show (if true then decide _ else decide _) = true
        rw [if_pos rfl]
        refine decide_eq_true ?_
        show (1 : Int) ≤ (numB [a0, a1, a2, a3] : Int) ∧ (numB [a0, a1, a2, a3] : Int) ≤ 4294967295
        rw [numB_four] at *
        omega
      unfold goodC
      rw [e1, show gGR (putFour [a0, a1, a2, a3] c) = true from g2, show gLL (putFour [a0, a1, a2, a3] c) = true from g3]; rfl
    · cases h
  · split at h
    · split at h
      · cases h
        have e1 : gGR (putGR b c) = true := by
          have k0 := getD_lt256 hb 0
          have k1 := getD_lt256 hb 1
          unfold gGR
          show ((true || _) && (decide ((0 : Int) ≤ ((b.getD 0 0 % 16 * 256 + b.getD 1 0 : Nat) : Int) ∧ ((b.getD 0 0 % 16 * 256 + b.getD 1 0 : Nat) : Int) ≤ 4095) && ((fstU 4 (b.drop 2)).isSome || !fwdOf (fstU 4 (b.drop 2))))) = true
          rw [Bool.true_or, Bool.true_and, decide_eq_true (by omega), Bool.true_and]
          cases fstU 4 (b.drop 2) <;> rfl
        unfold goodC
        rw [e1, show gFour (putGR b c) = true from g1, show gLL (putGR b c) = true from g3]; rfl
      · cases h
    · split at h
      · split at h
        · cases h
          have e1 : gLL (putLL b c) = true := by
            have kl := ltOf_lt hb
            unfold gLL
            show (if (fstU 7 b).isSome = true then decide ((0 : Int) ≤ (ltCp (fstU 7 b) : Int) ∧ (ltCp (fstU 7 b) : Int) ≤ 16777215) else decide ((ltCp (fstU 7 b) : Int) = 0)) = true
            cases hu : fstU 7 b with
            | none => rfl
            | some u => rw [hu] at kl; exact (if_pos (show (some u).isSome = true from rfl)).trans (decide_eq_true (by omega))
          unfold goodC
          rw [e1, show gFour (putLL b c) = true from g1, show gGR (putLL b c) = true from g2]; rfl
        · cases h
      · cases h; exact hg
theorem readC_good (bs : List Nat) (hb : ∀ x ∈ bs, x < 256) (c : Cp) (h : readC bs = some c) : goodC c = true :=
  eachC_inv readPar (fun c => goodC c = true) (fun k v c c2 hv hg h => by
    unfold readPar at h
    split at h
    · exact eachC_inv readOne (fun c => goodC c = true) (fun k v c c2 hv hg h => readOne_good k v c c2 hv hg h) v.length v c c2 (Nat.le_refl _) hv hg h
    · cases h) bs.length bs cp0 c (Nat.le_refl _) hb rfl h
end Go.Proofs.YtkmfnafecdfedaaGreatDoor
