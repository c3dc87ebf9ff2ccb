/- NegoBoth's walk. -/
import Derived.Test.YtmpnnfbpknfekaaNgD
import Derived.Test.YtmpnnfbpknfekaaDuo
import Derived.Test.YtmpnnfbpknfekaaWNegoChecks
namespace Go.Proofs.Ytmpnnfbpknfekaa
open Go.RowKit
set_option maxRecDepth 100000

section
variable {a : Act} {w : World} {dst : Option Tmp} {ty : TypeId} {pos : String} {after : Array Edge} {K : Act → World → Prop} {Q : Exit → Act → World → Prop}
theorem run_ours (ρ : Operand → Value) (x y z : Operand) (u v s : Value) (hf : ρ (.func 8) = .func (.func 8) #[] #[]) (hx : ρ x = u) (hy : ρ y = v) (hz : ρ z = s) :
    (execOp ρ { dst := dst, op := .call { callee := .value (.func 8), args := #[x, y, z], argTypes := #[24, 4, 4] }, type := ty, pos := pos, after := after, guard := none }).run Try.prog w = .ok (.enter 8 #[u, v, s]) w := by
  unfold execOp
  simp [resolve, invoke, hf, hx, hy, hz, go_sem]
theorem call_ours (x y z : Operand) (u v s : Value) (hx : a.eval x = u) (hy : a.eval y = v) (hz : a.eval z = s) (h : Calls Try.prog 8 #[u, v, s] w fun e w' => ∃ r, e = .returned r ∧ K (a.put dst r) w') :
    Oper.wp Try.prog { dst := dst, op := .call { callee := .value (.func 8), args := #[x, y, z], argTypes := #[24, 4, 4] }, type := ty, pos := pos, after := after, guard := none } a w K Q := by
  unfold Oper.wp
  rw [run_ours a.eval x y z u v s rfl hx hy hz]
  refine Calls.mono h ?_
  rintro _ w' ⟨u, rfl, hk⟩
  exact hk
theorem run_check (ρ : Operand → Value) (x y z : Operand) (u v s : Value) (hf : ρ (.func 11) = .func (.func 11) #[] #[]) (hx : ρ x = u) (hy : ρ y = v) (hz : ρ z = s) :
    (execOp ρ { dst := dst, op := .call { callee := .value (.func 11), args := #[x, y, z], argTypes := #[24, 34, 29] }, type := ty, pos := pos, after := after, guard := none }).run Try.prog w = .ok (.enter 11 #[u, v, s]) w := by
  unfold execOp
  simp [resolve, invoke, hf, hx, hy, hz, go_sem]
theorem call_check (x y z : Operand) (u v s : Value) (hx : a.eval x = u) (hy : a.eval y = v) (hz : a.eval z = s) (h : Calls Try.prog 11 #[u, v, s] w fun e w' => ∃ r, e = .returned r ∧ K (a.put dst r) w') :
    Oper.wp Try.prog { dst := dst, op := .call { callee := .value (.func 11), args := #[x, y, z], argTypes := #[24, 34, 29] }, type := ty, pos := pos, after := after, guard := none } a w K Q := by
  unfold Oper.wp
  rw [run_check a.eval x y z u v s rfl hx hy hz]
  refine Calls.mono h ?_
  rintro _ w' ⟨u, rfl, hk⟩
  exact hk
end
def lst12 (k : Nat) (A N : Bool) : Array Bool := #[true, true, true, decide (1 ≤ k), true, true, true, decide (2 ≤ k), A, N, false, false]
def lst16 (k : Nat) (A N : Bool) : Array Bool := #[true, true, true, true, true, decide (1 ≤ k), true, true, true, true, true, decide (2 ≤ k), A, N, false, false]
def zO : Array Value := #[.int .i64 0, .int .i64 0, .int .u32 0, .bool false, .int .i64 0, .bool false, .bool false, .int .i64 0, .bool false, .bool false, .bool false, .int .i64 0]
def opC (o : Opn) : Array Value := #[.int .i64 o.asn, .int .i64 o.hold, .int .u32 (o.id : Int), .bool o.four, .int .i64 o.as4, .bool o.gr, .bool o.rs, .int .i64 o.tm, .bool o.fam, .bool o.fwd, .bool o.ll, .int .i64 o.lt]
theorem lessH_comm (c d : Cf) (x y x' y' : Bool) : lessH c (oursO d x y) = lessH d (oursO c x' y') := by
  unfold lessH oursO
  simp only
  split <;> split <;> omega
section
variable {P : Program} {ops : Array Oper} {Q : Exit → Act → World → Prop} {S : World → Prop} {L : Nat → Bool}
theorem ord_s {o : Oper} {l : List Nat} {k : Nat} {a a' : Act} {w : World} (hL : L k = false) (ho : ops[k]? = some o) (hw : Region.wanted o (yielded ops a.tmps) = false) (ha : a.put o.dst undef = a') (h : wpOrd P ops Q S L l a' w) :
    wpOrd P ops Q S L (k :: l) a w := by
  rw [wpOrd, if_neg (by rw [hL]; simp)]
  exact ⟨o, undef, ho, .inr ⟨hw, rfl⟩, by rw [ha]; exact h⟩
end
set_option maxHeartbeats 3200000 in
theorem negoBoth_walk (c d : Cf) (rs fwd : Bool) (w : World) (_ : c.id < 4294967296) (_ : I64 c.asn) (_ : d.id < 4294967296) (_ : I64 d.asn) :
    Calls Try.prog 5 #[cfV c, cfV d, .bool rs, .bool fwd] w fun e w' => e = .returned (.bool true) ∧ Below w.heap.size w w' := by
  have HO1 : Hid (∀ X, Calls Try.prog 8 #[cfV c, .bool rs, .bool fwd] X fun e w' => e = .returned (.agg (opC (oursO c rs fwd))) ∧ Below X.heap.size X w') := fun X => pours_any c rs fwd X
  have HO2 : Hid (∀ X, Calls Try.prog 8 #[cfV d, .bool rs, .bool fwd] X fun e w' => e = .returned (.agg (opC (oursO d rs fwd))) ∧ Below X.heap.size X w') := fun X => pours_any d rs fwd X
  have hk : ∀ (c d : Cf) (k : Int), (c.id ≠ 0 ∧ d.id ≠ 0 ∧ c.id ≠ d.id ∧ c.hold ≠ 1 ∧ c.hold ≠ 2 ∧ d.hold ≠ 1 ∧ d.hold ≠ 2) → (if chkN c d.asn (oursO d rs fwd) = 0 then (0 : Int) else 2) = 0 := fun c d k h => by
    obtain ⟨h1, h2, h3, h4, h5, h6, h7⟩ := h
    rw [if_pos]
    unfold chkN
    rw [if_neg (show ¬ (oursO d rs fwd).four = false by simp [oursO]), if_neg (show ¬ (oursO d rs fwd).asn ≠ d.asn by simp [oursO]), if_neg (show ¬ ((oursO d rs fwd).id = 0 ∨ (oursO d rs fwd).id = c.id) by simp only [oursO]; omega), if_neg (show ¬ ((oursO d rs fwd).hold = 1 ∨ (oursO d rs fwd).hold = 2) by simp only [oursO]; omega)]
  have HC1 : Hid (∀ X, Calls Try.prog 11 #[cfV c, pcV 0 d.asn none 0 0 none 0 0, .agg (opC (oursO d rs fwd))] X fun e w' => (∃ k s a9 ln c9, e = .returned (.agg #[.int .i64 k, .int .i64 s, .slice a9 ln c9]) ∧ ((c.id ≠ 0 ∧ d.id ≠ 0 ∧ c.id ≠ d.id ∧ c.hold ≠ 1 ∧ c.hold ≠ 2 ∧ d.hold ≠ 1 ∧ d.hold ≠ 2) → k = 0)) ∧ Below X.heap.size X w') := fun X =>
    (pcheck_any c 0 d.asn none 0 0 none 0 0 (oursO d rs fwd) X).mono fun e w' ⟨⟨a9, c9, he, _⟩, hb⟩ => ⟨⟨_, _, _, _, _, he, hk c d 0⟩, hb⟩
  have HC2 : Hid (∀ X, Calls Try.prog 11 #[cfV d, pcV 0 c.asn none 0 0 none 0 0, .agg (opC (oursO c rs fwd))] X fun e w' => (∃ k s a9 ln c9, e = .returned (.agg #[.int .i64 k, .int .i64 s, .slice a9 ln c9]) ∧ ((c.id ≠ 0 ∧ d.id ≠ 0 ∧ c.id ≠ d.id ∧ c.hold ≠ 1 ∧ c.hold ≠ 2 ∧ d.hold ≠ 1 ∧ d.hold ≠ 2) → k = 0)) ∧ Below X.heap.size X w') := fun X =>
    (pcheck_any d 0 c.asn none 0 0 none 0 0 (oursO c rs fwd) X).mono fun e w' ⟨⟨a9, c9, he, _⟩, hb⟩ => ⟨⟨_, _, _, _, _, he, fun ⟨h1, h2, h3, h4, h5, h6, h7⟩ => hk d c 0 ⟨h2, h1, Ne.symm h3, h6, h7, h4, h5⟩⟩, hb⟩
  clear hk
  obtain ⟨m, HH1, HH2⟩ : ∃ m : Int, Hid (∀ X, Calls Try.prog 13 #[cfV c, .agg (opC (oursO d rs fwd))] X fun e w' => e = .returned (.int .i64 m) ∧ Below X.heap.size X w') ∧ Hid (∀ X, Calls Try.prog 13 #[cfV d, .agg (opC (oursO c rs fwd))] X fun e w' => e = .returned (.int .i64 m) ∧ Below X.heap.size X w') :=
    ⟨_, fun X => phold_any c (oursO d rs fwd) X, fun X => by rw [lessH_comm c d rs fwd rs fwd]; exact phold_any d (oursO c rs fwd) X⟩
  obtain ⟨ca, ci, cn, ch, cg, cl, cs, cd⟩ := c
  obtain ⟨da, di, dn, dh, dg, dl, ds, dd⟩ := d
  simp only [cfV, pcV] at HO1 HO2 HC1 HC2 HH1 HH2 ⊢
  go_enter Try.func5, Try.ntmps5
  go_wp2_with fail
  obtain ⟨w0, hw0⟩ : ∃ w0, w0 = (w.alloc (.cells #[.int .i64 ca, .int .u32 (ci : Int), .int .u32 (cn : Int), .int .i64 ch, .int .i64 cg, .int .i64 cl, .int .i64 cs, .int .i64 cd] 24)).alloc (.cells #[.int .i64 da, .int .u32 (di : Int), .int .u32 (dn : Int), .int .i64 dh, .int .i64 dg, .int .i64 dl, .int .i64 ds, .int .i64 dd] 24) := ⟨_, rfl⟩
  have HB0 : Hid (Below w.heap.size w w0) := by show Below _ _ _; rw [hw0]; exact below_two _ _ _
  have hs1 : CfgAt w0 w.heap.size ca ci cn ch cg cl cs cd := by
    rw [hw0]
    exact CfgAt.below (cfg_box (w := w) (Below.refl _ _)) ((Below.refl _ _).alloc (Nat.le_refl _) _)
  have hs2 : CfgAt w0 (w.heap.size + 1) da di dn dh dg dl ds dd := by
    rw [hw0]
    have := cfg_box (w := w.alloc (.cells #[.int .i64 ca, .int .u32 (ci : Int), .int .u32 (cn : Int), .int .i64 ch, .int .i64 cg, .int .i64 cl, .int .i64 cs, .int .i64 cd] 24)) (a := da) (i := di) (n := dn) (h := dh) (g := dg) (l := dl) (s := ds) (d := dd) (Below.refl _ _)
    rw [World.size_alloc] at this
    exact this
  have HS : Hid (∀ w', Below w0.heap.size w0 w' → CfgAt w' w.heap.size ca ci cn ch cg cl cs cd ∧ CfgAt w' (w.heap.size + 1) da di dn dh dg dl ds dd) := fun w' hb => ⟨hs1.below hb, hs2.below hb⟩
  rw [← hw0]
  clear hw0 hs1 hs2
  refine region_pre2 (fun W => Below w0.heap.size w0 W) [0, 1, 2, 4, 5, 6] 6 (lst12 0 false false) (by kernel_rfl) (by kernel_rfl) (by rfl) (by kernel_rfl) (by kernel_rfl) ((Below.refl _ _).drew) ?_
  repeat refine pre_q (by rfl) (by rfl) (fun w9 h9 => (by obtain ⟨⟨p0, p1, p2, p3, p4, p5, p6, p7, pz⟩, ⟨q0, q1, q2, q3, q4, q5, q6, q7, qz⟩⟩ := HS.out w9 h9; clear h9; go_simp; first | done | rfl)) (by go_simp; first | done | rfl) ?_
  show wpAnyH _ _ _ _ _ _ _ _ _
  refine duo_region [9, 10, 17, 21] _ w0 _ 9 10 17 21 3 7 8 9 10 11 12 29 zO (fun C => C = opC (oursO ⟨ca, ci, cn, ch, cg, cl, cs, cd⟩ rs fwd)) (fun C => C = opC (oursO ⟨da, di, dn, dh, dg, dl, ds, dd⟩ rs fwd)) lst12
    (by rfl) rfl (by rfl) rfl ?c1 ?c2 ?v1 ?v2 rfl (by kernel_rfl) (by rfl) rfl rfl ?rA (by rfl) rfl rfl ?rN ⟨_, _, _, rfl⟩ ⟨_, _, _, rfl⟩ (fun k N _ => rfl) (fun k A _ => rfl) ?hr ?hrn (fun A N => rfl) (fun A N => rfl) (by kernel_rfl) (by kernel_rfl) (by kernel_rfl) rfl (by decide) ?hsz ?fin (Below.refl _ _).drew
  case c1 =>
    intro a X K hf hb hk
    refine call_ours _ _ _ _ _ _ (slot_eval (hf.slot (by decide) (by rfl))) (slot_eval (hf.slot (by decide) (by rfl))) (slot_eval (hf.slot (by decide) (by rfl))) ((HO1.out X).mono ?_)
    rintro e w' ⟨rfl, hb'⟩
    exact ⟨_, rfl, hk _ _ rfl hb'⟩
  case c2 =>
    intro a X K hf hb hk
    refine call_ours _ _ _ _ _ _ (slot_eval (hf.slot (by decide) (by rfl))) (slot_eval (hf.slot (by decide) (by rfl))) (slot_eval (hf.slot (by decide) (by rfl))) ((HO2.out X).mono ?_)
    rintro e w' ⟨rfl, hb'⟩
    exact ⟨_, rfl, hk _ _ rfl hb'⟩
  case v1 => rintro C rfl; exact ⟨rfl, by simp [opC, Value.oneCell']⟩
  case v2 => rintro C rfl; exact ⟨rfl, by simp [opC, Value.oneCell']⟩
  case rA => intro a X; unfold execOp; simp [go_sem, zO]
  case rN => intro a X; unfold execOp; simp [go_sem, zO]
  case hr =>
    intro k A N hk
    match k, hk with
    | 0, _ => cases A <;> cases N <;> decide +kernel
    | 1, _ => cases A <;> cases N <;> decide +kernel
  case hrn =>
    intro A N h
    cases A <;> cases N <;> first | (cases h; done) | kernel_rfl
  case hsz => exact (by decide : ∀ s ∈ [9, 10, 17, 21], s < 93)
  case fin =>
    intro gA gN C1 C2 W a hfr pA pN p1 p2 e1 e2 hne hov lA lN zA zN rA rN
    subst e1 e2
    refine ⟨fun _ h => (by cases h), ?_⟩
    obtain rfl := Fr.eq (l := [(9, _), (10, _), (17, _), (21, _)]) rfl hfr.defers hfr.size (fun t ht => hfr.out t (by simpa using ht)) (by intro p hp; simp only [List.mem_cons, List.not_mem_nil, or_false] at hp; rcases hp with rfl | rfl | rfl | rfl <;> assumption)
    simp only [List.foldl, Act.put, List.setIfInBounds_toArray, List.set_cons_zero, List.set_cons_succ]
    simp only [opC, oursO] at rA rN HC1 HC2 HH1 HH2 ⊢
    generalize (if cg ≤ 4095 then cg else 4095) = cm at *
    generalize (if dg ≤ 4095 then dg else 4095) = dm at *
    have hs3 : OpAt W gA ca ch ci true ca true rs cm true fwd true cl := ⟨rA 0 _ rfl, rA 1 _ rfl, rA 2 _ rfl, rA 3 _ rfl, rA 4 _ rfl, rA 5 _ rfl, rA 6 _ rfl, rA 7 _ rfl, rA 8 _ rfl, rA 9 _ rfl, rA 10 _ rfl, rA 11 _ rfl, zA⟩
    have hs4 : OpAt W gN da dh di true da true rs dm true fwd true dl := ⟨rN 0 _ rfl, rN 1 _ rfl, rN 2 _ rfl, rN 3 _ rfl, rN 4 _ rfl, rN 5 _ rfl, rN 6 _ rfl, rN 7 _ rfl, rN 8 _ rfl, rN 9 _ rfl, rN 10 _ rfl, rN 11 _ rfl, zN⟩
    obtain ⟨hs1, hs2⟩ := HS.out W hov
    have HT : Hid (∀ w', Below W.heap.size W w' → CfgAt w' w.heap.size ca ci cn ch cg cl cs cd ∧ CfgAt w' (w.heap.size + 1) da di dn dh dg dl ds dd ∧ OpAt w' gA ca ch ci true ca true rs cm true fwd true cl ∧ OpAt w' gN da dh di true da true rs dm true fwd true dl) := fun w' hb => ⟨hs1.below hb, hs2.below hb, hs3.below hb, hs4.below hb⟩
    have HBW : Hid (Below w.heap.size w W) := HB0.out.trans (hov.mono HB0.out.size)
    clear rA rN hs1 hs2 hs3 hs4 hov lA lN zA zN HS HB0 hne pA pN p1 p2 hfr HO1 HO2
    obtain ⟨⟨p0, p1, p2, p3, p4, p5, p6, p7, pz⟩, ⟨q0, q1, q2, q3, q4, q5, q6, q7, qz⟩, ⟨r0, r1, r2, r3, r4, r5, r6, r7, r8, r9, r10, r11, rz⟩, ⟨s0, s1, s2, s3, s4, s5, s6, s7, s8, s9, s10, s11, sz⟩⟩ := HT.out W (Below.refl _ _)
    by_cases n1 : ci = 0
    · subst n1
      as_aux_lemma =>
        go_wp2_with fail
        refine region_pre2 (fun X => Below W.heap.size W X) [0, 1, 2, 3, 4, 6, 7, 8, 9, 10] 6 (lst16 0 false false) (by kernel_rfl) (by kernel_rfl) (by rfl) (by kernel_rfl) (by kernel_rfl) ((Below.refl _ _).drew) ?_
        repeat refine pre_q (by rfl) (by rfl) (fun w9 h9 => (by obtain ⟨⟨p0, p1, p2, p3, p4, p5, p6, p7, pz⟩, ⟨q0, q1, q2, q3, q4, q5, q6, q7, qz⟩, ⟨r0, r1, r2, r3, r4, r5, r6, r7, r8, r9, r10, r11, rz⟩, ⟨s0, s1, s2, s3, s4, s5, s6, s7, s8, s9, s10, s11, sz⟩⟩ := HT.out w9 h9; clear h9; go_simp; first | done | rfl)) (by go_simp; first | done | rfl) ?_
        show wpAnyH _ _ _ _ _ _ _ _ _
        refine duo_region [12, 13, 62, 68] _ W _ 12 13 62 68 5 11 12 13 14 15 3 38 #[.int .i64 0, .int .i64 0, .slice none 0 0] (fun C => ∃ k s a9 ln c9, C = #[.int .i64 k, .int .i64 s, .slice a9 ln c9] ∧ (False → k = 0)) (fun C => ∃ k s a9 ln c9, C = #[.int .i64 k, .int .i64 s, .slice a9 ln c9] ∧ (False → k = 0)) lst16
          (by rfl) rfl (by rfl) rfl ?c1 ?c2 ?v1 ?v1 rfl (by kernel_rfl) (by rfl) rfl rfl ?rA (by rfl) rfl rfl ?rN ⟨_, _, _, rfl⟩ ⟨_, _, _, rfl⟩ (fun k N _ => rfl) (fun k A _ => rfl) ?hr ?hrn (fun A N => rfl) (fun A N => rfl) (by kernel_rfl) (by kernel_rfl) (by kernel_rfl) rfl (by decide) ?hsz ?fin (Below.refl _ _).drew
        case c1 =>
          intro a X K hf hb hk
          refine call_check _ _ _ _ _ _ (slot_eval (hf.slot (by decide) (by rfl))) (slot_eval (hf.slot (by decide) (by rfl))) (slot_eval (hf.slot (by decide) (by rfl))) ((HC1.out X).mono ?_)
          rintro e w' ⟨⟨k, s, a9, ln, c9, rfl, hk0⟩, hb'⟩
          exact ⟨_, rfl, hk _ _ ⟨k, s, a9, ln, c9, rfl, fun h => h.elim⟩ hb'⟩
        case c2 =>
          intro a X K hf hb hk
          refine call_check _ _ _ _ _ _ (slot_eval (hf.slot (by decide) (by rfl))) (slot_eval (hf.slot (by decide) (by rfl))) (slot_eval (hf.slot (by decide) (by rfl))) ((HC2.out X).mono ?_)
          rintro e w' ⟨⟨k, s, a9, ln, c9, rfl, hk0⟩, hb'⟩
          exact ⟨_, rfl, hk _ _ ⟨k, s, a9, ln, c9, rfl, fun h => h.elim⟩ hb'⟩
        case v1 => rintro C ⟨k, s, a9, ln, c9, rfl, _⟩; exact ⟨rfl, by simp [Value.oneCell']⟩
        case rA => intro a X; unfold execOp; simp [go_sem]
        case rN => intro a X; unfold execOp; simp [go_sem]
        case hr =>
          intro k A N hk
          match k, hk with
          | 0, _ => cases A <;> cases N <;> decide +kernel
          | 1, _ => cases A <;> cases N <;> decide +kernel
        case hrn =>
          intro A N h
          cases A <;> cases N <;> first | (cases h; done) | kernel_rfl
        case hsz => exact (by decide : ∀ s ∈ [12, 13, 62, 68], s < 93)
        case fin =>
          intro gC gD C1 C2 W2 a hfr pA pN p1' p2' e1 e2 hne hov lA lN zA zN rA rN
          obtain ⟨k, s, a9, ln, c9, rfl, hk⟩ := e1
          obtain ⟨k', s', a8, ln', c8, rfl, hk'⟩ := e2
          refine ⟨fun _ h => (by cases h), ?_⟩
          obtain rfl := Fr.eq (l := [(12, _), (13, _), (62, _), (68, _)]) rfl hfr.defers hfr.size (fun t ht => hfr.out t (by simpa using ht)) (by intro p hp; simp only [List.mem_cons, List.not_mem_nil, or_false] at hp; rcases hp with rfl | rfl | rfl | rfl <;> assumption)
          simp only [List.foldl, Act.put, List.setIfInBounds_toArray, List.set_cons_zero, List.set_cons_succ]
          have hm1 : W2.cell? ⟨gC, 0, none⟩ = some (.int .i64 k) := rA 0 _ rfl
          have hm2 : W2.cell? ⟨gD, 0, none⟩ = some (.int .i64 k') := rN 0 _ rfl
          have HU : Hid (∀ w', Below W2.heap.size W2 w' → (CfgAt w' w.heap.size ca 0 cn ch cg cl cs cd ∧ CfgAt w' (w.heap.size + 1) da di dn dh dg dl ds dd ∧ OpAt w' gA ca ch 0 true ca true rs cm true fwd true cl ∧ OpAt w' gN da dh di true da true rs dm true fwd true dl) ∧ (w'.cell? ⟨gC, 0, none⟩ = some (.int .i64 k) ∧ w'.cell? ⟨gD, 0, none⟩ = some (.int .i64 k') ∧ gC < w'.heap.size ∧ gD < w'.heap.size)) := fun w' hb =>
            ⟨HT.out w' (hov.trans (hb.mono hov.size)), by rw [hb.cell (p := ⟨gC, 0, none⟩) zA]; exact hm1, by rw [hb.cell (p := ⟨gD, 0, none⟩) zN]; exact hm2, by have := hb.size; omega, by have := hb.size; omega⟩
          have HB2 : Hid (Below w.heap.size w W2) := HBW.out.trans (hov.mono HBW.out.size)
          clear hm1 hm2 rA rN hov lA lN zA zN hne HT HBW pA pN p1' p2' hfr HC1 HC2 hk hk'
          go_wp2_with fail
          refine region_ord (fun w' => (CfgAt w' w.heap.size ca 0 cn ch cg cl cs cd ∧ CfgAt w' (w.heap.size + 1) da di dn dh dg dl ds dd ∧ OpAt w' gA ca ch 0 true ca true rs cm true fwd true cl ∧ OpAt w' gN da dh di true da true rs dm true fwd true dl) ∧ (w'.cell? ⟨gC, 0, none⟩ = some (.int .i64 k) ∧ w'.cell? ⟨gD, 0, none⟩ = some (.int .i64 k') ∧ gC < w'.heap.size ∧ gD < w'.heap.size)) (fun k => k == 0 || k == 18 || k == 21) [0, 1, 2, 3, 4, 5, 6, 7, 8, 9, 10, 11, 12, 13, 14, 15, 16, 17, 19, 20, 18, 21, 22, 23, 24] (by kernel_rfl) (by kernel_rfl) (by rfl) (by kernel_rfl) (HU.out _ (Below.refl _ _).drew) ?_
          refine ord_l (by rfl) (by rfl) (by rfl) ?_
          go_simp
          refine (answers_any _).mono ?_
          rintro e w1 ⟨rfl, hb1⟩
          have hb1' : Below W2.heap.size W2 w1 := (Below.refl _ _).drew.trans hb1
          refine ⟨HU.out _ hb1', ?_⟩
          repeat first
            | refine ord_q (by rfl) (by rfl) (by rfl) (fun w9 h9 => (by obtain ⟨⟨⟨p0, p1, p2, p3, p4, p5, p6, p7, pz⟩, ⟨q0, q1, q2, q3, q4, q5, q6, q7, qz⟩, ⟨r0, r1, r2, r3, r4, r5, r6, r7, r8, r9, r10, r11, rz⟩, ⟨s0, s1, s2, s3, s4, s5, s6, s7, s8, s9, s10, s11, sz⟩⟩, m0, m1, mz, my⟩ := h9; go_simp; first | done | rfl)) (by go_simp; first | done | rfl) ?_
            | refine ord_s (by rfl) (by rfl) (by rfl) (by go_simp; first | done | rfl) ?_
          refine ord_l (by rfl) (by rfl) (by rfl) ?_
          go_simp
          refine (HH1.out _).mono ?_
          rintro e w2 ⟨rfl, hb2⟩
          have hb2' : Below W2.heap.size W2 w2 := hb1'.trans (hb2.mono hb1'.size)
          refine ⟨HU.out _ hb2', ?_⟩
          refine ord_l (by rfl) (by rfl) (by rfl) ?_
          go_simp
          refine (HH2.out _).mono ?_
          rintro e w3 ⟨rfl, hb3⟩
          have hb3' : Below W2.heap.size W2 w3 := hb2'.trans (hb3.mono hb2'.size)
          refine ⟨HU.out _ hb3', ?_⟩
          repeat refine ord_q (by rfl) (by rfl) (by rfl) (fun w9 h9 => (by go_simp; first | done | rfl)) (by go_simp; first | done | rfl) ?_
          refine ⟨fun _ h => (by cases h), ?_⟩
          go_wp2
          go_ret
          exact ⟨rfl, HB2.out.trans (hb3'.mono HB2.out.size)⟩
    have t1 : ((ci : Int) != 0) = true := by simp; omega
    have u1 : ¬ (ci : Int) = 0 := by omega
    by_cases n2 : di = 0
    · subst n2
      as_aux_lemma =>
        go_wp2_with fail
        refine region_pre2 (fun X => Below W.heap.size W X) [0, 1, 2, 3, 4, 6, 7, 8, 9, 10] 6 (lst16 0 false false) (by kernel_rfl) (by kernel_rfl) (by rfl) (by kernel_rfl) (by kernel_rfl) ((Below.refl _ _).drew) ?_
        repeat refine pre_q (by rfl) (by rfl) (fun w9 h9 => (by obtain ⟨⟨p0, p1, p2, p3, p4, p5, p6, p7, pz⟩, ⟨q0, q1, q2, q3, q4, q5, q6, q7, qz⟩, ⟨r0, r1, r2, r3, r4, r5, r6, r7, r8, r9, r10, r11, rz⟩, ⟨s0, s1, s2, s3, s4, s5, s6, s7, s8, s9, s10, s11, sz⟩⟩ := HT.out w9 h9; clear h9; go_simp; first | done | rfl)) (by go_simp; first | done | rfl) ?_
        show wpAnyH _ _ _ _ _ _ _ _ _
        refine duo_region [12, 13, 62, 68] _ W _ 12 13 62 68 5 11 12 13 14 15 3 38 #[.int .i64 0, .int .i64 0, .slice none 0 0] (fun C => ∃ k s a9 ln c9, C = #[.int .i64 k, .int .i64 s, .slice a9 ln c9] ∧ (False → k = 0)) (fun C => ∃ k s a9 ln c9, C = #[.int .i64 k, .int .i64 s, .slice a9 ln c9] ∧ (False → k = 0)) lst16
          (by rfl) rfl (by rfl) rfl ?c1 ?c2 ?v1 ?v1 rfl (by kernel_rfl) (by rfl) rfl rfl ?rA (by rfl) rfl rfl ?rN ⟨_, _, _, rfl⟩ ⟨_, _, _, rfl⟩ (fun k N _ => rfl) (fun k A _ => rfl) ?hr ?hrn (fun A N => rfl) (fun A N => rfl) (by kernel_rfl) (by kernel_rfl) (by kernel_rfl) rfl (by decide) ?hsz ?fin (Below.refl _ _).drew
        case c1 =>
          intro a X K hf hb hk
          refine call_check _ _ _ _ _ _ (slot_eval (hf.slot (by decide) (by rfl))) (slot_eval (hf.slot (by decide) (by rfl))) (slot_eval (hf.slot (by decide) (by rfl))) ((HC1.out X).mono ?_)
          rintro e w' ⟨⟨k, s, a9, ln, c9, rfl, hk0⟩, hb'⟩
          exact ⟨_, rfl, hk _ _ ⟨k, s, a9, ln, c9, rfl, fun h => h.elim⟩ hb'⟩
        case c2 =>
          intro a X K hf hb hk
          refine call_check _ _ _ _ _ _ (slot_eval (hf.slot (by decide) (by rfl))) (slot_eval (hf.slot (by decide) (by rfl))) (slot_eval (hf.slot (by decide) (by rfl))) ((HC2.out X).mono ?_)
          rintro e w' ⟨⟨k, s, a9, ln, c9, rfl, hk0⟩, hb'⟩
          exact ⟨_, rfl, hk _ _ ⟨k, s, a9, ln, c9, rfl, fun h => h.elim⟩ hb'⟩
        case v1 => rintro C ⟨k, s, a9, ln, c9, rfl, _⟩; exact ⟨rfl, by simp [Value.oneCell']⟩
        case rA => intro a X; unfold execOp; simp [go_sem]
        case rN => intro a X; unfold execOp; simp [go_sem]
        case hr =>
          intro k A N hk
          match k, hk with
          | 0, _ => cases A <;> cases N <;> decide +kernel
          | 1, _ => cases A <;> cases N <;> decide +kernel
        case hrn =>
          intro A N h
          cases A <;> cases N <;> first | (cases h; done) | kernel_rfl
        case hsz => exact (by decide : ∀ s ∈ [12, 13, 62, 68], s < 93)
        case fin =>
          intro gC gD C1 C2 W2 a hfr pA pN p1' p2' e1 e2 hne hov lA lN zA zN rA rN
          obtain ⟨k, s, a9, ln, c9, rfl, hk⟩ := e1
          obtain ⟨k', s', a8, ln', c8, rfl, hk'⟩ := e2
          refine ⟨fun _ h => (by cases h), ?_⟩
          obtain rfl := Fr.eq (l := [(12, _), (13, _), (62, _), (68, _)]) rfl hfr.defers hfr.size (fun t ht => hfr.out t (by simpa using ht)) (by intro p hp; simp only [List.mem_cons, List.not_mem_nil, or_false] at hp; rcases hp with rfl | rfl | rfl | rfl <;> assumption)
          simp only [List.foldl, Act.put, List.setIfInBounds_toArray, List.set_cons_zero, List.set_cons_succ]
          have hm1 : W2.cell? ⟨gC, 0, none⟩ = some (.int .i64 k) := rA 0 _ rfl
          have hm2 : W2.cell? ⟨gD, 0, none⟩ = some (.int .i64 k') := rN 0 _ rfl
          have HU : Hid (∀ w', Below W2.heap.size W2 w' → (CfgAt w' w.heap.size ca ci cn ch cg cl cs cd ∧ CfgAt w' (w.heap.size + 1) da 0 dn dh dg dl ds dd ∧ OpAt w' gA ca ch ci true ca true rs cm true fwd true cl ∧ OpAt w' gN da dh 0 true da true rs dm true fwd true dl) ∧ (w'.cell? ⟨gC, 0, none⟩ = some (.int .i64 k) ∧ w'.cell? ⟨gD, 0, none⟩ = some (.int .i64 k') ∧ gC < w'.heap.size ∧ gD < w'.heap.size)) := fun w' hb =>
            ⟨HT.out w' (hov.trans (hb.mono hov.size)), by rw [hb.cell (p := ⟨gC, 0, none⟩) zA]; exact hm1, by rw [hb.cell (p := ⟨gD, 0, none⟩) zN]; exact hm2, by have := hb.size; omega, by have := hb.size; omega⟩
          have HB2 : Hid (Below w.heap.size w W2) := HBW.out.trans (hov.mono HBW.out.size)
          clear hm1 hm2 rA rN hov lA lN zA zN hne HT HBW pA pN p1' p2' hfr HC1 HC2 hk hk'
          go_wp2_with fail
          refine region_ord (fun w' => (CfgAt w' w.heap.size ca ci cn ch cg cl cs cd ∧ CfgAt w' (w.heap.size + 1) da 0 dn dh dg dl ds dd ∧ OpAt w' gA ca ch ci true ca true rs cm true fwd true cl ∧ OpAt w' gN da dh 0 true da true rs dm true fwd true dl) ∧ (w'.cell? ⟨gC, 0, none⟩ = some (.int .i64 k) ∧ w'.cell? ⟨gD, 0, none⟩ = some (.int .i64 k') ∧ gC < w'.heap.size ∧ gD < w'.heap.size)) (fun k => k == 0 || k == 18 || k == 21) [0, 1, 2, 3, 4, 5, 6, 7, 8, 9, 10, 11, 12, 13, 14, 15, 16, 17, 19, 20, 18, 21, 22, 23, 24] (by kernel_rfl) (by kernel_rfl) (by rfl) (by kernel_rfl) (HU.out _ (Below.refl _ _).drew) ?_
          refine ord_l (by rfl) (by rfl) (by rfl) ?_
          go_simp
          refine (answers_any _).mono ?_
          rintro e w1 ⟨rfl, hb1⟩
          have hb1' : Below W2.heap.size W2 w1 := (Below.refl _ _).drew.trans hb1
          refine ⟨HU.out _ hb1', ?_⟩
          repeat first
            | refine ord_q (by rfl) (by rfl) (by rfl) (fun w9 h9 => (by obtain ⟨⟨⟨p0, p1, p2, p3, p4, p5, p6, p7, pz⟩, ⟨q0, q1, q2, q3, q4, q5, q6, q7, qz⟩, ⟨r0, r1, r2, r3, r4, r5, r6, r7, r8, r9, r10, r11, rz⟩, ⟨s0, s1, s2, s3, s4, s5, s6, s7, s8, s9, s10, s11, sz⟩⟩, m0, m1, mz, my⟩ := h9; go_simp; first | done | rfl)) (by go_simp; first | done | rfl) ?_
            | refine ord_s (by rfl) (by rfl) (by rfl) (by go_simp; first | done | rfl) ?_
          refine ord_l (by rfl) (by rfl) (by rfl) ?_
          go_simp
          refine (HH1.out _).mono ?_
          rintro e w2 ⟨rfl, hb2⟩
          have hb2' : Below W2.heap.size W2 w2 := hb1'.trans (hb2.mono hb1'.size)
          refine ⟨HU.out _ hb2', ?_⟩
          refine ord_l (by rfl) (by rfl) (by rfl) ?_
          go_simp
          refine (HH2.out _).mono ?_
          rintro e w3 ⟨rfl, hb3⟩
          have hb3' : Below W2.heap.size W2 w3 := hb2'.trans (hb3.mono hb2'.size)
          refine ⟨HU.out _ hb3', ?_⟩
          repeat refine ord_q (by rfl) (by rfl) (by rfl) (fun w9 h9 => (by go_simp; first | done | rfl)) (by go_simp; first | done | rfl) ?_
          refine ⟨fun _ h => (by cases h), ?_⟩
          go_wp2
          go_ret
          exact ⟨rfl, HB2.out.trans (hb3'.mono HB2.out.size)⟩
    have t2 : ((di : Int) != 0) = true := by simp; omega
    have u2 : ¬ (di : Int) = 0 := by omega
    by_cases n3 : ci = di
    · subst n3
      as_aux_lemma =>
        go_wp2_with fail
        refine region_pre2 (fun X => Below W.heap.size W X) [0, 1, 2, 3, 4, 6, 7, 8, 9, 10] 6 (lst16 0 false false) (by kernel_rfl) (by kernel_rfl) (by rfl) (by kernel_rfl) (by kernel_rfl) ((Below.refl _ _).drew) ?_
        repeat refine pre_q (by rfl) (by rfl) (fun w9 h9 => (by obtain ⟨⟨p0, p1, p2, p3, p4, p5, p6, p7, pz⟩, ⟨q0, q1, q2, q3, q4, q5, q6, q7, qz⟩, ⟨r0, r1, r2, r3, r4, r5, r6, r7, r8, r9, r10, r11, rz⟩, ⟨s0, s1, s2, s3, s4, s5, s6, s7, s8, s9, s10, s11, sz⟩⟩ := HT.out w9 h9; clear h9; go_simp; first | done | rfl)) (by go_simp; first | done | rfl) ?_
        show wpAnyH _ _ _ _ _ _ _ _ _
        refine duo_region [12, 13, 62, 68] _ W _ 12 13 62 68 5 11 12 13 14 15 3 38 #[.int .i64 0, .int .i64 0, .slice none 0 0] (fun C => ∃ k s a9 ln c9, C = #[.int .i64 k, .int .i64 s, .slice a9 ln c9] ∧ (False → k = 0)) (fun C => ∃ k s a9 ln c9, C = #[.int .i64 k, .int .i64 s, .slice a9 ln c9] ∧ (False → k = 0)) lst16
          (by rfl) rfl (by rfl) rfl ?c1 ?c2 ?v1 ?v1 rfl (by kernel_rfl) (by rfl) rfl rfl ?rA (by rfl) rfl rfl ?rN ⟨_, _, _, rfl⟩ ⟨_, _, _, rfl⟩ (fun k N _ => rfl) (fun k A _ => rfl) ?hr ?hrn (fun A N => rfl) (fun A N => rfl) (by kernel_rfl) (by kernel_rfl) (by kernel_rfl) rfl (by decide) ?hsz ?fin (Below.refl _ _).drew
        case c1 =>
          intro a X K hf hb hk
          refine call_check _ _ _ _ _ _ (slot_eval (hf.slot (by decide) (by rfl))) (slot_eval (hf.slot (by decide) (by rfl))) (slot_eval (hf.slot (by decide) (by rfl))) ((HC1.out X).mono ?_)
          rintro e w' ⟨⟨k, s, a9, ln, c9, rfl, hk0⟩, hb'⟩
          exact ⟨_, rfl, hk _ _ ⟨k, s, a9, ln, c9, rfl, fun h => h.elim⟩ hb'⟩
        case c2 =>
          intro a X K hf hb hk
          refine call_check _ _ _ _ _ _ (slot_eval (hf.slot (by decide) (by rfl))) (slot_eval (hf.slot (by decide) (by rfl))) (slot_eval (hf.slot (by decide) (by rfl))) ((HC2.out X).mono ?_)
          rintro e w' ⟨⟨k, s, a9, ln, c9, rfl, hk0⟩, hb'⟩
          exact ⟨_, rfl, hk _ _ ⟨k, s, a9, ln, c9, rfl, fun h => h.elim⟩ hb'⟩
        case v1 => rintro C ⟨k, s, a9, ln, c9, rfl, _⟩; exact ⟨rfl, by simp [Value.oneCell']⟩
        case rA => intro a X; unfold execOp; simp [go_sem]
        case rN => intro a X; unfold execOp; simp [go_sem]
        case hr =>
          intro k A N hk
          match k, hk with
          | 0, _ => cases A <;> cases N <;> decide +kernel
          | 1, _ => cases A <;> cases N <;> decide +kernel
        case hrn =>
          intro A N h
          cases A <;> cases N <;> first | (cases h; done) | kernel_rfl
        case hsz => exact (by decide : ∀ s ∈ [12, 13, 62, 68], s < 93)
        case fin =>
          intro gC gD C1 C2 W2 a hfr pA pN p1' p2' e1 e2 hne hov lA lN zA zN rA rN
          obtain ⟨k, s, a9, ln, c9, rfl, hk⟩ := e1
          obtain ⟨k', s', a8, ln', c8, rfl, hk'⟩ := e2
          refine ⟨fun _ h => (by cases h), ?_⟩
          obtain rfl := Fr.eq (l := [(12, _), (13, _), (62, _), (68, _)]) rfl hfr.defers hfr.size (fun t ht => hfr.out t (by simpa using ht)) (by intro p hp; simp only [List.mem_cons, List.not_mem_nil, or_false] at hp; rcases hp with rfl | rfl | rfl | rfl <;> assumption)
          simp only [List.foldl, Act.put, List.setIfInBounds_toArray, List.set_cons_zero, List.set_cons_succ]
          have hm1 : W2.cell? ⟨gC, 0, none⟩ = some (.int .i64 k) := rA 0 _ rfl
          have hm2 : W2.cell? ⟨gD, 0, none⟩ = some (.int .i64 k') := rN 0 _ rfl
          have HU : Hid (∀ w', Below W2.heap.size W2 w' → (CfgAt w' w.heap.size ca ci cn ch cg cl cs cd ∧ CfgAt w' (w.heap.size + 1) da ci dn dh dg dl ds dd ∧ OpAt w' gA ca ch ci true ca true rs cm true fwd true cl ∧ OpAt w' gN da dh ci true da true rs dm true fwd true dl) ∧ (w'.cell? ⟨gC, 0, none⟩ = some (.int .i64 k) ∧ w'.cell? ⟨gD, 0, none⟩ = some (.int .i64 k') ∧ gC < w'.heap.size ∧ gD < w'.heap.size)) := fun w' hb =>
            ⟨HT.out w' (hov.trans (hb.mono hov.size)), by rw [hb.cell (p := ⟨gC, 0, none⟩) zA]; exact hm1, by rw [hb.cell (p := ⟨gD, 0, none⟩) zN]; exact hm2, by have := hb.size; omega, by have := hb.size; omega⟩
          have HB2 : Hid (Below w.heap.size w W2) := HBW.out.trans (hov.mono HBW.out.size)
          clear hm1 hm2 rA rN hov lA lN zA zN hne HT HBW pA pN p1' p2' hfr HC1 HC2 hk hk'
          go_wp2_with fail
          refine region_ord (fun w' => (CfgAt w' w.heap.size ca ci cn ch cg cl cs cd ∧ CfgAt w' (w.heap.size + 1) da ci dn dh dg dl ds dd ∧ OpAt w' gA ca ch ci true ca true rs cm true fwd true cl ∧ OpAt w' gN da dh ci true da true rs dm true fwd true dl) ∧ (w'.cell? ⟨gC, 0, none⟩ = some (.int .i64 k) ∧ w'.cell? ⟨gD, 0, none⟩ = some (.int .i64 k') ∧ gC < w'.heap.size ∧ gD < w'.heap.size)) (fun k => k == 0 || k == 18 || k == 21) [0, 1, 2, 3, 4, 5, 6, 7, 8, 9, 10, 11, 12, 13, 14, 15, 16, 17, 19, 20, 18, 21, 22, 23, 24] (by kernel_rfl) (by kernel_rfl) (by rfl) (by kernel_rfl) (HU.out _ (Below.refl _ _).drew) ?_
          refine ord_l (by rfl) (by rfl) (by rfl) ?_
          go_simp
          refine (answers_any _).mono ?_
          rintro e w1 ⟨rfl, hb1⟩
          have hb1' : Below W2.heap.size W2 w1 := (Below.refl _ _).drew.trans hb1
          refine ⟨HU.out _ hb1', ?_⟩
          repeat first
            | refine ord_q (by rfl) (by rfl) (by rfl) (fun w9 h9 => (by obtain ⟨⟨⟨p0, p1, p2, p3, p4, p5, p6, p7, pz⟩, ⟨q0, q1, q2, q3, q4, q5, q6, q7, qz⟩, ⟨r0, r1, r2, r3, r4, r5, r6, r7, r8, r9, r10, r11, rz⟩, ⟨s0, s1, s2, s3, s4, s5, s6, s7, s8, s9, s10, s11, sz⟩⟩, m0, m1, mz, my⟩ := h9; go_simp; first | done | rfl)) (by go_simp; first | done | rfl) ?_
            | refine ord_s (by rfl) (by rfl) (by rfl) (by go_simp; first | done | rfl) ?_
          refine ord_l (by rfl) (by rfl) (by rfl) ?_
          go_simp
          refine (HH1.out _).mono ?_
          rintro e w2 ⟨rfl, hb2⟩
          have hb2' : Below W2.heap.size W2 w2 := hb1'.trans (hb2.mono hb1'.size)
          refine ⟨HU.out _ hb2', ?_⟩
          refine ord_l (by rfl) (by rfl) (by rfl) ?_
          go_simp
          refine (HH2.out _).mono ?_
          rintro e w3 ⟨rfl, hb3⟩
          have hb3' : Below W2.heap.size W2 w3 := hb2'.trans (hb3.mono hb2'.size)
          refine ⟨HU.out _ hb3', ?_⟩
          repeat refine ord_q (by rfl) (by rfl) (by rfl) (fun w9 h9 => (by go_simp; first | done | rfl)) (by go_simp; first | done | rfl) ?_
          refine ⟨fun _ h => (by cases h), ?_⟩
          go_wp2
          go_ret
          exact ⟨rfl, HB2.out.trans (hb3'.mono HB2.out.size)⟩
    have t3 : ((ci : Int) != (di : Int)) = true := by simp; omega
    have u3 : ¬ (ci : Int) = (di : Int) := by omega
    by_cases n4 : ch = 1
    · subst n4
      as_aux_lemma =>
        go_wp2_with fail
        refine region_pre2 (fun X => Below W.heap.size W X) [0, 1, 2, 3, 4, 6, 7, 8, 9, 10] 6 (lst16 0 false false) (by kernel_rfl) (by kernel_rfl) (by rfl) (by kernel_rfl) (by kernel_rfl) ((Below.refl _ _).drew) ?_
        repeat refine pre_q (by rfl) (by rfl) (fun w9 h9 => (by obtain ⟨⟨p0, p1, p2, p3, p4, p5, p6, p7, pz⟩, ⟨q0, q1, q2, q3, q4, q5, q6, q7, qz⟩, ⟨r0, r1, r2, r3, r4, r5, r6, r7, r8, r9, r10, r11, rz⟩, ⟨s0, s1, s2, s3, s4, s5, s6, s7, s8, s9, s10, s11, sz⟩⟩ := HT.out w9 h9; clear h9; go_simp; first | done | rfl)) (by go_simp; first | done | rfl) ?_
        show wpAnyH _ _ _ _ _ _ _ _ _
        refine duo_region [12, 13, 62, 68] _ W _ 12 13 62 68 5 11 12 13 14 15 3 38 #[.int .i64 0, .int .i64 0, .slice none 0 0] (fun C => ∃ k s a9 ln c9, C = #[.int .i64 k, .int .i64 s, .slice a9 ln c9] ∧ (False → k = 0)) (fun C => ∃ k s a9 ln c9, C = #[.int .i64 k, .int .i64 s, .slice a9 ln c9] ∧ (False → k = 0)) lst16
          (by rfl) rfl (by rfl) rfl ?c1 ?c2 ?v1 ?v1 rfl (by kernel_rfl) (by rfl) rfl rfl ?rA (by rfl) rfl rfl ?rN ⟨_, _, _, rfl⟩ ⟨_, _, _, rfl⟩ (fun k N _ => rfl) (fun k A _ => rfl) ?hr ?hrn (fun A N => rfl) (fun A N => rfl) (by kernel_rfl) (by kernel_rfl) (by kernel_rfl) rfl (by decide) ?hsz ?fin (Below.refl _ _).drew
        case c1 =>
          intro a X K hf hb hk
          refine call_check _ _ _ _ _ _ (slot_eval (hf.slot (by decide) (by rfl))) (slot_eval (hf.slot (by decide) (by rfl))) (slot_eval (hf.slot (by decide) (by rfl))) ((HC1.out X).mono ?_)
          rintro e w' ⟨⟨k, s, a9, ln, c9, rfl, hk0⟩, hb'⟩
          exact ⟨_, rfl, hk _ _ ⟨k, s, a9, ln, c9, rfl, fun h => h.elim⟩ hb'⟩
        case c2 =>
          intro a X K hf hb hk
          refine call_check _ _ _ _ _ _ (slot_eval (hf.slot (by decide) (by rfl))) (slot_eval (hf.slot (by decide) (by rfl))) (slot_eval (hf.slot (by decide) (by rfl))) ((HC2.out X).mono ?_)
          rintro e w' ⟨⟨k, s, a9, ln, c9, rfl, hk0⟩, hb'⟩
          exact ⟨_, rfl, hk _ _ ⟨k, s, a9, ln, c9, rfl, fun h => h.elim⟩ hb'⟩
        case v1 => rintro C ⟨k, s, a9, ln, c9, rfl, _⟩; exact ⟨rfl, by simp [Value.oneCell']⟩
        case rA => intro a X; unfold execOp; simp [go_sem]
        case rN => intro a X; unfold execOp; simp [go_sem]
        case hr =>
          intro k A N hk
          match k, hk with
          | 0, _ => cases A <;> cases N <;> decide +kernel
          | 1, _ => cases A <;> cases N <;> decide +kernel
        case hrn =>
          intro A N h
          cases A <;> cases N <;> first | (cases h; done) | kernel_rfl
        case hsz => exact (by decide : ∀ s ∈ [12, 13, 62, 68], s < 93)
        case fin =>
          intro gC gD C1 C2 W2 a hfr pA pN p1' p2' e1 e2 hne hov lA lN zA zN rA rN
          obtain ⟨k, s, a9, ln, c9, rfl, hk⟩ := e1
          obtain ⟨k', s', a8, ln', c8, rfl, hk'⟩ := e2
          refine ⟨fun _ h => (by cases h), ?_⟩
          obtain rfl := Fr.eq (l := [(12, _), (13, _), (62, _), (68, _)]) rfl hfr.defers hfr.size (fun t ht => hfr.out t (by simpa using ht)) (by intro p hp; simp only [List.mem_cons, List.not_mem_nil, or_false] at hp; rcases hp with rfl | rfl | rfl | rfl <;> assumption)
          simp only [List.foldl, Act.put, List.setIfInBounds_toArray, List.set_cons_zero, List.set_cons_succ]
          have hm1 : W2.cell? ⟨gC, 0, none⟩ = some (.int .i64 k) := rA 0 _ rfl
          have hm2 : W2.cell? ⟨gD, 0, none⟩ = some (.int .i64 k') := rN 0 _ rfl
          have HU : Hid (∀ w', Below W2.heap.size W2 w' → (CfgAt w' w.heap.size ca ci cn 1 cg cl cs cd ∧ CfgAt w' (w.heap.size + 1) da di dn dh dg dl ds dd ∧ OpAt w' gA ca 1 ci true ca true rs cm true fwd true cl ∧ OpAt w' gN da dh di true da true rs dm true fwd true dl) ∧ (w'.cell? ⟨gC, 0, none⟩ = some (.int .i64 k) ∧ w'.cell? ⟨gD, 0, none⟩ = some (.int .i64 k') ∧ gC < w'.heap.size ∧ gD < w'.heap.size)) := fun w' hb =>
            ⟨HT.out w' (hov.trans (hb.mono hov.size)), by rw [hb.cell (p := ⟨gC, 0, none⟩) zA]; exact hm1, by rw [hb.cell (p := ⟨gD, 0, none⟩) zN]; exact hm2, by have := hb.size; omega, by have := hb.size; omega⟩
          have HB2 : Hid (Below w.heap.size w W2) := HBW.out.trans (hov.mono HBW.out.size)
          clear hm1 hm2 rA rN hov lA lN zA zN hne HT HBW pA pN p1' p2' hfr HC1 HC2 hk hk'
          go_wp2_with fail
          refine region_ord (fun w' => (CfgAt w' w.heap.size ca ci cn 1 cg cl cs cd ∧ CfgAt w' (w.heap.size + 1) da di dn dh dg dl ds dd ∧ OpAt w' gA ca 1 ci true ca true rs cm true fwd true cl ∧ OpAt w' gN da dh di true da true rs dm true fwd true dl) ∧ (w'.cell? ⟨gC, 0, none⟩ = some (.int .i64 k) ∧ w'.cell? ⟨gD, 0, none⟩ = some (.int .i64 k') ∧ gC < w'.heap.size ∧ gD < w'.heap.size)) (fun k => k == 0 || k == 18 || k == 21) [0, 1, 2, 3, 4, 5, 6, 7, 8, 9, 10, 11, 12, 13, 14, 15, 16, 17, 19, 20, 18, 21, 22, 23, 24] (by kernel_rfl) (by kernel_rfl) (by rfl) (by kernel_rfl) (HU.out _ (Below.refl _ _).drew) ?_
          refine ord_l (by rfl) (by rfl) (by rfl) ?_
          go_simp
          refine (answers_any _).mono ?_
          rintro e w1 ⟨rfl, hb1⟩
          have hb1' : Below W2.heap.size W2 w1 := (Below.refl _ _).drew.trans hb1
          refine ⟨HU.out _ hb1', ?_⟩
          repeat first
            | refine ord_q (by rfl) (by rfl) (by rfl) (fun w9 h9 => (by obtain ⟨⟨⟨p0, p1, p2, p3, p4, p5, p6, p7, pz⟩, ⟨q0, q1, q2, q3, q4, q5, q6, q7, qz⟩, ⟨r0, r1, r2, r3, r4, r5, r6, r7, r8, r9, r10, r11, rz⟩, ⟨s0, s1, s2, s3, s4, s5, s6, s7, s8, s9, s10, s11, sz⟩⟩, m0, m1, mz, my⟩ := h9; go_simp; first | done | rfl)) (by go_simp; first | done | rfl) ?_
            | refine ord_s (by rfl) (by rfl) (by rfl) (by go_simp; first | done | rfl) ?_
          refine ord_l (by rfl) (by rfl) (by rfl) ?_
          go_simp
          refine (HH1.out _).mono ?_
          rintro e w2 ⟨rfl, hb2⟩
          have hb2' : Below W2.heap.size W2 w2 := hb1'.trans (hb2.mono hb1'.size)
          refine ⟨HU.out _ hb2', ?_⟩
          refine ord_l (by rfl) (by rfl) (by rfl) ?_
          go_simp
          refine (HH2.out _).mono ?_
          rintro e w3 ⟨rfl, hb3⟩
          have hb3' : Below W2.heap.size W2 w3 := hb2'.trans (hb3.mono hb2'.size)
          refine ⟨HU.out _ hb3', ?_⟩
          repeat refine ord_q (by rfl) (by rfl) (by rfl) (fun w9 h9 => (by go_simp; first | done | rfl)) (by go_simp; first | done | rfl) ?_
          refine ⟨fun _ h => (by cases h), ?_⟩
          go_wp2
          go_ret
          exact ⟨rfl, HB2.out.trans (hb3'.mono HB2.out.size)⟩
    have t4 : (ch != 1) = true := by simp; omega
    by_cases n5 : ch = 2
    · subst n5
      as_aux_lemma =>
        go_wp2_with fail
        refine region_pre2 (fun X => Below W.heap.size W X) [0, 1, 2, 3, 4, 6, 7, 8, 9, 10] 6 (lst16 0 false false) (by kernel_rfl) (by kernel_rfl) (by rfl) (by kernel_rfl) (by kernel_rfl) ((Below.refl _ _).drew) ?_
        repeat refine pre_q (by rfl) (by rfl) (fun w9 h9 => (by obtain ⟨⟨p0, p1, p2, p3, p4, p5, p6, p7, pz⟩, ⟨q0, q1, q2, q3, q4, q5, q6, q7, qz⟩, ⟨r0, r1, r2, r3, r4, r5, r6, r7, r8, r9, r10, r11, rz⟩, ⟨s0, s1, s2, s3, s4, s5, s6, s7, s8, s9, s10, s11, sz⟩⟩ := HT.out w9 h9; clear h9; go_simp; first | done | rfl)) (by go_simp; first | done | rfl) ?_
        show wpAnyH _ _ _ _ _ _ _ _ _
        refine duo_region [12, 13, 62, 68] _ W _ 12 13 62 68 5 11 12 13 14 15 3 38 #[.int .i64 0, .int .i64 0, .slice none 0 0] (fun C => ∃ k s a9 ln c9, C = #[.int .i64 k, .int .i64 s, .slice a9 ln c9] ∧ (False → k = 0)) (fun C => ∃ k s a9 ln c9, C = #[.int .i64 k, .int .i64 s, .slice a9 ln c9] ∧ (False → k = 0)) lst16
          (by rfl) rfl (by rfl) rfl ?c1 ?c2 ?v1 ?v1 rfl (by kernel_rfl) (by rfl) rfl rfl ?rA (by rfl) rfl rfl ?rN ⟨_, _, _, rfl⟩ ⟨_, _, _, rfl⟩ (fun k N _ => rfl) (fun k A _ => rfl) ?hr ?hrn (fun A N => rfl) (fun A N => rfl) (by kernel_rfl) (by kernel_rfl) (by kernel_rfl) rfl (by decide) ?hsz ?fin (Below.refl _ _).drew
        case c1 =>
          intro a X K hf hb hk
          refine call_check _ _ _ _ _ _ (slot_eval (hf.slot (by decide) (by rfl))) (slot_eval (hf.slot (by decide) (by rfl))) (slot_eval (hf.slot (by decide) (by rfl))) ((HC1.out X).mono ?_)
          rintro e w' ⟨⟨k, s, a9, ln, c9, rfl, hk0⟩, hb'⟩
          exact ⟨_, rfl, hk _ _ ⟨k, s, a9, ln, c9, rfl, fun h => h.elim⟩ hb'⟩
        case c2 =>
          intro a X K hf hb hk
          refine call_check _ _ _ _ _ _ (slot_eval (hf.slot (by decide) (by rfl))) (slot_eval (hf.slot (by decide) (by rfl))) (slot_eval (hf.slot (by decide) (by rfl))) ((HC2.out X).mono ?_)
          rintro e w' ⟨⟨k, s, a9, ln, c9, rfl, hk0⟩, hb'⟩
          exact ⟨_, rfl, hk _ _ ⟨k, s, a9, ln, c9, rfl, fun h => h.elim⟩ hb'⟩
        case v1 => rintro C ⟨k, s, a9, ln, c9, rfl, _⟩; exact ⟨rfl, by simp [Value.oneCell']⟩
        case rA => intro a X; unfold execOp; simp [go_sem]
        case rN => intro a X; unfold execOp; simp [go_sem]
        case hr =>
          intro k A N hk
          match k, hk with
          | 0, _ => cases A <;> cases N <;> decide +kernel
          | 1, _ => cases A <;> cases N <;> decide +kernel
        case hrn =>
          intro A N h
          cases A <;> cases N <;> first | (cases h; done) | kernel_rfl
        case hsz => exact (by decide : ∀ s ∈ [12, 13, 62, 68], s < 93)
        case fin =>
          intro gC gD C1 C2 W2 a hfr pA pN p1' p2' e1 e2 hne hov lA lN zA zN rA rN
          obtain ⟨k, s, a9, ln, c9, rfl, hk⟩ := e1
          obtain ⟨k', s', a8, ln', c8, rfl, hk'⟩ := e2
          refine ⟨fun _ h => (by cases h), ?_⟩
          obtain rfl := Fr.eq (l := [(12, _), (13, _), (62, _), (68, _)]) rfl hfr.defers hfr.size (fun t ht => hfr.out t (by simpa using ht)) (by intro p hp; simp only [List.mem_cons, List.not_mem_nil, or_false] at hp; rcases hp with rfl | rfl | rfl | rfl <;> assumption)
          simp only [List.foldl, Act.put, List.setIfInBounds_toArray, List.set_cons_zero, List.set_cons_succ]
          have hm1 : W2.cell? ⟨gC, 0, none⟩ = some (.int .i64 k) := rA 0 _ rfl
          have hm2 : W2.cell? ⟨gD, 0, none⟩ = some (.int .i64 k') := rN 0 _ rfl
          have HU : Hid (∀ w', Below W2.heap.size W2 w' → (CfgAt w' w.heap.size ca ci cn 2 cg cl cs cd ∧ CfgAt w' (w.heap.size + 1) da di dn dh dg dl ds dd ∧ OpAt w' gA ca 2 ci true ca true rs cm true fwd true cl ∧ OpAt w' gN da dh di true da true rs dm true fwd true dl) ∧ (w'.cell? ⟨gC, 0, none⟩ = some (.int .i64 k) ∧ w'.cell? ⟨gD, 0, none⟩ = some (.int .i64 k') ∧ gC < w'.heap.size ∧ gD < w'.heap.size)) := fun w' hb =>
            ⟨HT.out w' (hov.trans (hb.mono hov.size)), by rw [hb.cell (p := ⟨gC, 0, none⟩) zA]; exact hm1, by rw [hb.cell (p := ⟨gD, 0, none⟩) zN]; exact hm2, by have := hb.size; omega, by have := hb.size; omega⟩
          have HB2 : Hid (Below w.heap.size w W2) := HBW.out.trans (hov.mono HBW.out.size)
          clear hm1 hm2 rA rN hov lA lN zA zN hne HT HBW pA pN p1' p2' hfr HC1 HC2 hk hk'
          go_wp2_with fail
          refine region_ord (fun w' => (CfgAt w' w.heap.size ca ci cn 2 cg cl cs cd ∧ CfgAt w' (w.heap.size + 1) da di dn dh dg dl ds dd ∧ OpAt w' gA ca 2 ci true ca true rs cm true fwd true cl ∧ OpAt w' gN da dh di true da true rs dm true fwd true dl) ∧ (w'.cell? ⟨gC, 0, none⟩ = some (.int .i64 k) ∧ w'.cell? ⟨gD, 0, none⟩ = some (.int .i64 k') ∧ gC < w'.heap.size ∧ gD < w'.heap.size)) (fun k => k == 0 || k == 18 || k == 21) [0, 1, 2, 3, 4, 5, 6, 7, 8, 9, 10, 11, 12, 13, 14, 15, 16, 17, 19, 20, 18, 21, 22, 23, 24] (by kernel_rfl) (by kernel_rfl) (by rfl) (by kernel_rfl) (HU.out _ (Below.refl _ _).drew) ?_
          refine ord_l (by rfl) (by rfl) (by rfl) ?_
          go_simp
          refine (answers_any _).mono ?_
          rintro e w1 ⟨rfl, hb1⟩
          have hb1' : Below W2.heap.size W2 w1 := (Below.refl _ _).drew.trans hb1
          refine ⟨HU.out _ hb1', ?_⟩
          repeat first
            | refine ord_q (by rfl) (by rfl) (by rfl) (fun w9 h9 => (by obtain ⟨⟨⟨p0, p1, p2, p3, p4, p5, p6, p7, pz⟩, ⟨q0, q1, q2, q3, q4, q5, q6, q7, qz⟩, ⟨r0, r1, r2, r3, r4, r5, r6, r7, r8, r9, r10, r11, rz⟩, ⟨s0, s1, s2, s3, s4, s5, s6, s7, s8, s9, s10, s11, sz⟩⟩, m0, m1, mz, my⟩ := h9; go_simp; first | done | rfl)) (by go_simp; first | done | rfl) ?_
            | refine ord_s (by rfl) (by rfl) (by rfl) (by go_simp; first | done | rfl) ?_
          refine ord_l (by rfl) (by rfl) (by rfl) ?_
          go_simp
          refine (HH1.out _).mono ?_
          rintro e w2 ⟨rfl, hb2⟩
          have hb2' : Below W2.heap.size W2 w2 := hb1'.trans (hb2.mono hb1'.size)
          refine ⟨HU.out _ hb2', ?_⟩
          refine ord_l (by rfl) (by rfl) (by rfl) ?_
          go_simp
          refine (HH2.out _).mono ?_
          rintro e w3 ⟨rfl, hb3⟩
          have hb3' : Below W2.heap.size W2 w3 := hb2'.trans (hb3.mono hb2'.size)
          refine ⟨HU.out _ hb3', ?_⟩
          repeat refine ord_q (by rfl) (by rfl) (by rfl) (fun w9 h9 => (by go_simp; first | done | rfl)) (by go_simp; first | done | rfl) ?_
          refine ⟨fun _ h => (by cases h), ?_⟩
          go_wp2
          go_ret
          exact ⟨rfl, HB2.out.trans (hb3'.mono HB2.out.size)⟩
    have t5 : (ch != 2) = true := by simp; omega
    by_cases n6 : dh = 1
    · subst n6
      as_aux_lemma =>
        go_wp2_with fail
        refine region_pre2 (fun X => Below W.heap.size W X) [0, 1, 2, 3, 4, 6, 7, 8, 9, 10] 6 (lst16 0 false false) (by kernel_rfl) (by kernel_rfl) (by rfl) (by kernel_rfl) (by kernel_rfl) ((Below.refl _ _).drew) ?_
        repeat refine pre_q (by rfl) (by rfl) (fun w9 h9 => (by obtain ⟨⟨p0, p1, p2, p3, p4, p5, p6, p7, pz⟩, ⟨q0, q1, q2, q3, q4, q5, q6, q7, qz⟩, ⟨r0, r1, r2, r3, r4, r5, r6, r7, r8, r9, r10, r11, rz⟩, ⟨s0, s1, s2, s3, s4, s5, s6, s7, s8, s9, s10, s11, sz⟩⟩ := HT.out w9 h9; clear h9; go_simp; first | done | rfl)) (by go_simp; first | done | rfl) ?_
        show wpAnyH _ _ _ _ _ _ _ _ _
        refine duo_region [12, 13, 62, 68] _ W _ 12 13 62 68 5 11 12 13 14 15 3 38 #[.int .i64 0, .int .i64 0, .slice none 0 0] (fun C => ∃ k s a9 ln c9, C = #[.int .i64 k, .int .i64 s, .slice a9 ln c9] ∧ (False → k = 0)) (fun C => ∃ k s a9 ln c9, C = #[.int .i64 k, .int .i64 s, .slice a9 ln c9] ∧ (False → k = 0)) lst16
          (by rfl) rfl (by rfl) rfl ?c1 ?c2 ?v1 ?v1 rfl (by kernel_rfl) (by rfl) rfl rfl ?rA (by rfl) rfl rfl ?rN ⟨_, _, _, rfl⟩ ⟨_, _, _, rfl⟩ (fun k N _ => rfl) (fun k A _ => rfl) ?hr ?hrn (fun A N => rfl) (fun A N => rfl) (by kernel_rfl) (by kernel_rfl) (by kernel_rfl) rfl (by decide) ?hsz ?fin (Below.refl _ _).drew
        case c1 =>
          intro a X K hf hb hk
          refine call_check _ _ _ _ _ _ (slot_eval (hf.slot (by decide) (by rfl))) (slot_eval (hf.slot (by decide) (by rfl))) (slot_eval (hf.slot (by decide) (by rfl))) ((HC1.out X).mono ?_)
          rintro e w' ⟨⟨k, s, a9, ln, c9, rfl, hk0⟩, hb'⟩
          exact ⟨_, rfl, hk _ _ ⟨k, s, a9, ln, c9, rfl, fun h => h.elim⟩ hb'⟩
        case c2 =>
          intro a X K hf hb hk
          refine call_check _ _ _ _ _ _ (slot_eval (hf.slot (by decide) (by rfl))) (slot_eval (hf.slot (by decide) (by rfl))) (slot_eval (hf.slot (by decide) (by rfl))) ((HC2.out X).mono ?_)
          rintro e w' ⟨⟨k, s, a9, ln, c9, rfl, hk0⟩, hb'⟩
          exact ⟨_, rfl, hk _ _ ⟨k, s, a9, ln, c9, rfl, fun h => h.elim⟩ hb'⟩
        case v1 => rintro C ⟨k, s, a9, ln, c9, rfl, _⟩; exact ⟨rfl, by simp [Value.oneCell']⟩
        case rA => intro a X; unfold execOp; simp [go_sem]
        case rN => intro a X; unfold execOp; simp [go_sem]
        case hr =>
          intro k A N hk
          match k, hk with
          | 0, _ => cases A <;> cases N <;> decide +kernel
          | 1, _ => cases A <;> cases N <;> decide +kernel
        case hrn =>
          intro A N h
          cases A <;> cases N <;> first | (cases h; done) | kernel_rfl
        case hsz => exact (by decide : ∀ s ∈ [12, 13, 62, 68], s < 93)
        case fin =>
          intro gC gD C1 C2 W2 a hfr pA pN p1' p2' e1 e2 hne hov lA lN zA zN rA rN
          obtain ⟨k, s, a9, ln, c9, rfl, hk⟩ := e1
          obtain ⟨k', s', a8, ln', c8, rfl, hk'⟩ := e2
          refine ⟨fun _ h => (by cases h), ?_⟩
          obtain rfl := Fr.eq (l := [(12, _), (13, _), (62, _), (68, _)]) rfl hfr.defers hfr.size (fun t ht => hfr.out t (by simpa using ht)) (by intro p hp; simp only [List.mem_cons, List.not_mem_nil, or_false] at hp; rcases hp with rfl | rfl | rfl | rfl <;> assumption)
          simp only [List.foldl, Act.put, List.setIfInBounds_toArray, List.set_cons_zero, List.set_cons_succ]
          have hm1 : W2.cell? ⟨gC, 0, none⟩ = some (.int .i64 k) := rA 0 _ rfl
          have hm2 : W2.cell? ⟨gD, 0, none⟩ = some (.int .i64 k') := rN 0 _ rfl
          have HU : Hid (∀ w', Below W2.heap.size W2 w' → (CfgAt w' w.heap.size ca ci cn ch cg cl cs cd ∧ CfgAt w' (w.heap.size + 1) da di dn 1 dg dl ds dd ∧ OpAt w' gA ca ch ci true ca true rs cm true fwd true cl ∧ OpAt w' gN da 1 di true da true rs dm true fwd true dl) ∧ (w'.cell? ⟨gC, 0, none⟩ = some (.int .i64 k) ∧ w'.cell? ⟨gD, 0, none⟩ = some (.int .i64 k') ∧ gC < w'.heap.size ∧ gD < w'.heap.size)) := fun w' hb =>
            ⟨HT.out w' (hov.trans (hb.mono hov.size)), by rw [hb.cell (p := ⟨gC, 0, none⟩) zA]; exact hm1, by rw [hb.cell (p := ⟨gD, 0, none⟩) zN]; exact hm2, by have := hb.size; omega, by have := hb.size; omega⟩
          have HB2 : Hid (Below w.heap.size w W2) := HBW.out.trans (hov.mono HBW.out.size)
          clear hm1 hm2 rA rN hov lA lN zA zN hne HT HBW pA pN p1' p2' hfr HC1 HC2 hk hk'
          go_wp2_with fail
          refine region_ord (fun w' => (CfgAt w' w.heap.size ca ci cn ch cg cl cs cd ∧ CfgAt w' (w.heap.size + 1) da di dn 1 dg dl ds dd ∧ OpAt w' gA ca ch ci true ca true rs cm true fwd true cl ∧ OpAt w' gN da 1 di true da true rs dm true fwd true dl) ∧ (w'.cell? ⟨gC, 0, none⟩ = some (.int .i64 k) ∧ w'.cell? ⟨gD, 0, none⟩ = some (.int .i64 k') ∧ gC < w'.heap.size ∧ gD < w'.heap.size)) (fun k => k == 0 || k == 18 || k == 21) [0, 1, 2, 3, 4, 5, 6, 7, 8, 9, 10, 11, 12, 13, 14, 15, 16, 17, 19, 20, 18, 21, 22, 23, 24] (by kernel_rfl) (by kernel_rfl) (by rfl) (by kernel_rfl) (HU.out _ (Below.refl _ _).drew) ?_
          refine ord_l (by rfl) (by rfl) (by rfl) ?_
          go_simp
          refine (answers_any _).mono ?_
          rintro e w1 ⟨rfl, hb1⟩
          have hb1' : Below W2.heap.size W2 w1 := (Below.refl _ _).drew.trans hb1
          refine ⟨HU.out _ hb1', ?_⟩
          repeat first
            | refine ord_q (by rfl) (by rfl) (by rfl) (fun w9 h9 => (by obtain ⟨⟨⟨p0, p1, p2, p3, p4, p5, p6, p7, pz⟩, ⟨q0, q1, q2, q3, q4, q5, q6, q7, qz⟩, ⟨r0, r1, r2, r3, r4, r5, r6, r7, r8, r9, r10, r11, rz⟩, ⟨s0, s1, s2, s3, s4, s5, s6, s7, s8, s9, s10, s11, sz⟩⟩, m0, m1, mz, my⟩ := h9; go_simp; first | done | rfl)) (by go_simp; first | done | rfl) ?_
            | refine ord_s (by rfl) (by rfl) (by rfl) (by go_simp; first | done | rfl) ?_
          refine ord_l (by rfl) (by rfl) (by rfl) ?_
          go_simp
          refine (HH1.out _).mono ?_
          rintro e w2 ⟨rfl, hb2⟩
          have hb2' : Below W2.heap.size W2 w2 := hb1'.trans (hb2.mono hb1'.size)
          refine ⟨HU.out _ hb2', ?_⟩
          refine ord_l (by rfl) (by rfl) (by rfl) ?_
          go_simp
          refine (HH2.out _).mono ?_
          rintro e w3 ⟨rfl, hb3⟩
          have hb3' : Below W2.heap.size W2 w3 := hb2'.trans (hb3.mono hb2'.size)
          refine ⟨HU.out _ hb3', ?_⟩
          repeat refine ord_q (by rfl) (by rfl) (by rfl) (fun w9 h9 => (by go_simp; first | done | rfl)) (by go_simp; first | done | rfl) ?_
          refine ⟨fun _ h => (by cases h), ?_⟩
          go_wp2
          go_ret
          exact ⟨rfl, HB2.out.trans (hb3'.mono HB2.out.size)⟩
    have t6 : (dh != 1) = true := by simp; omega
    by_cases n7 : dh = 2
    · subst n7
      as_aux_lemma =>
        go_wp2_with fail
        refine region_pre2 (fun X => Below W.heap.size W X) [0, 1, 2, 3, 4, 6, 7, 8, 9, 10] 6 (lst16 0 false false) (by kernel_rfl) (by kernel_rfl) (by rfl) (by kernel_rfl) (by kernel_rfl) ((Below.refl _ _).drew) ?_
        repeat refine pre_q (by rfl) (by rfl) (fun w9 h9 => (by obtain ⟨⟨p0, p1, p2, p3, p4, p5, p6, p7, pz⟩, ⟨q0, q1, q2, q3, q4, q5, q6, q7, qz⟩, ⟨r0, r1, r2, r3, r4, r5, r6, r7, r8, r9, r10, r11, rz⟩, ⟨s0, s1, s2, s3, s4, s5, s6, s7, s8, s9, s10, s11, sz⟩⟩ := HT.out w9 h9; clear h9; go_simp; first | done | rfl)) (by go_simp; first | done | rfl) ?_
        show wpAnyH _ _ _ _ _ _ _ _ _
        refine duo_region [12, 13, 62, 68] _ W _ 12 13 62 68 5 11 12 13 14 15 3 38 #[.int .i64 0, .int .i64 0, .slice none 0 0] (fun C => ∃ k s a9 ln c9, C = #[.int .i64 k, .int .i64 s, .slice a9 ln c9] ∧ (False → k = 0)) (fun C => ∃ k s a9 ln c9, C = #[.int .i64 k, .int .i64 s, .slice a9 ln c9] ∧ (False → k = 0)) lst16
          (by rfl) rfl (by rfl) rfl ?c1 ?c2 ?v1 ?v1 rfl (by kernel_rfl) (by rfl) rfl rfl ?rA (by rfl) rfl rfl ?rN ⟨_, _, _, rfl⟩ ⟨_, _, _, rfl⟩ (fun k N _ => rfl) (fun k A _ => rfl) ?hr ?hrn (fun A N => rfl) (fun A N => rfl) (by kernel_rfl) (by kernel_rfl) (by kernel_rfl) rfl (by decide) ?hsz ?fin (Below.refl _ _).drew
        case c1 =>
          intro a X K hf hb hk
          refine call_check _ _ _ _ _ _ (slot_eval (hf.slot (by decide) (by rfl))) (slot_eval (hf.slot (by decide) (by rfl))) (slot_eval (hf.slot (by decide) (by rfl))) ((HC1.out X).mono ?_)
          rintro e w' ⟨⟨k, s, a9, ln, c9, rfl, hk0⟩, hb'⟩
          exact ⟨_, rfl, hk _ _ ⟨k, s, a9, ln, c9, rfl, fun h => h.elim⟩ hb'⟩
        case c2 =>
          intro a X K hf hb hk
          refine call_check _ _ _ _ _ _ (slot_eval (hf.slot (by decide) (by rfl))) (slot_eval (hf.slot (by decide) (by rfl))) (slot_eval (hf.slot (by decide) (by rfl))) ((HC2.out X).mono ?_)
          rintro e w' ⟨⟨k, s, a9, ln, c9, rfl, hk0⟩, hb'⟩
          exact ⟨_, rfl, hk _ _ ⟨k, s, a9, ln, c9, rfl, fun h => h.elim⟩ hb'⟩
        case v1 => rintro C ⟨k, s, a9, ln, c9, rfl, _⟩; exact ⟨rfl, by simp [Value.oneCell']⟩
        case rA => intro a X; unfold execOp; simp [go_sem]
        case rN => intro a X; unfold execOp; simp [go_sem]
        case hr =>
          intro k A N hk
          match k, hk with
          | 0, _ => cases A <;> cases N <;> decide +kernel
          | 1, _ => cases A <;> cases N <;> decide +kernel
        case hrn =>
          intro A N h
          cases A <;> cases N <;> first | (cases h; done) | kernel_rfl
        case hsz => exact (by decide : ∀ s ∈ [12, 13, 62, 68], s < 93)
        case fin =>
          intro gC gD C1 C2 W2 a hfr pA pN p1' p2' e1 e2 hne hov lA lN zA zN rA rN
          obtain ⟨k, s, a9, ln, c9, rfl, hk⟩ := e1
          obtain ⟨k', s', a8, ln', c8, rfl, hk'⟩ := e2
          refine ⟨fun _ h => (by cases h), ?_⟩
          obtain rfl := Fr.eq (l := [(12, _), (13, _), (62, _), (68, _)]) rfl hfr.defers hfr.size (fun t ht => hfr.out t (by simpa using ht)) (by intro p hp; simp only [List.mem_cons, List.not_mem_nil, or_false] at hp; rcases hp with rfl | rfl | rfl | rfl <;> assumption)
          simp only [List.foldl, Act.put, List.setIfInBounds_toArray, List.set_cons_zero, List.set_cons_succ]
          have hm1 : W2.cell? ⟨gC, 0, none⟩ = some (.int .i64 k) := rA 0 _ rfl
          have hm2 : W2.cell? ⟨gD, 0, none⟩ = some (.int .i64 k') := rN 0 _ rfl
          have HU : Hid (∀ w', Below W2.heap.size W2 w' → (CfgAt w' w.heap.size ca ci cn ch cg cl cs cd ∧ CfgAt w' (w.heap.size + 1) da di dn 2 dg dl ds dd ∧ OpAt w' gA ca ch ci true ca true rs cm true fwd true cl ∧ OpAt w' gN da 2 di true da true rs dm true fwd true dl) ∧ (w'.cell? ⟨gC, 0, none⟩ = some (.int .i64 k) ∧ w'.cell? ⟨gD, 0, none⟩ = some (.int .i64 k') ∧ gC < w'.heap.size ∧ gD < w'.heap.size)) := fun w' hb =>
            ⟨HT.out w' (hov.trans (hb.mono hov.size)), by rw [hb.cell (p := ⟨gC, 0, none⟩) zA]; exact hm1, by rw [hb.cell (p := ⟨gD, 0, none⟩) zN]; exact hm2, by have := hb.size; omega, by have := hb.size; omega⟩
          have HB2 : Hid (Below w.heap.size w W2) := HBW.out.trans (hov.mono HBW.out.size)
          clear hm1 hm2 rA rN hov lA lN zA zN hne HT HBW pA pN p1' p2' hfr HC1 HC2 hk hk'
          go_wp2_with fail
          refine region_ord (fun w' => (CfgAt w' w.heap.size ca ci cn ch cg cl cs cd ∧ CfgAt w' (w.heap.size + 1) da di dn 2 dg dl ds dd ∧ OpAt w' gA ca ch ci true ca true rs cm true fwd true cl ∧ OpAt w' gN da 2 di true da true rs dm true fwd true dl) ∧ (w'.cell? ⟨gC, 0, none⟩ = some (.int .i64 k) ∧ w'.cell? ⟨gD, 0, none⟩ = some (.int .i64 k') ∧ gC < w'.heap.size ∧ gD < w'.heap.size)) (fun k => k == 0 || k == 18 || k == 21) [0, 1, 2, 3, 4, 5, 6, 7, 8, 9, 10, 11, 12, 13, 14, 15, 16, 17, 19, 20, 18, 21, 22, 23, 24] (by kernel_rfl) (by kernel_rfl) (by rfl) (by kernel_rfl) (HU.out _ (Below.refl _ _).drew) ?_
          refine ord_l (by rfl) (by rfl) (by rfl) ?_
          go_simp
          refine (answers_any _).mono ?_
          rintro e w1 ⟨rfl, hb1⟩
          have hb1' : Below W2.heap.size W2 w1 := (Below.refl _ _).drew.trans hb1
          refine ⟨HU.out _ hb1', ?_⟩
          repeat first
            | refine ord_q (by rfl) (by rfl) (by rfl) (fun w9 h9 => (by obtain ⟨⟨⟨p0, p1, p2, p3, p4, p5, p6, p7, pz⟩, ⟨q0, q1, q2, q3, q4, q5, q6, q7, qz⟩, ⟨r0, r1, r2, r3, r4, r5, r6, r7, r8, r9, r10, r11, rz⟩, ⟨s0, s1, s2, s3, s4, s5, s6, s7, s8, s9, s10, s11, sz⟩⟩, m0, m1, mz, my⟩ := h9; go_simp; first | done | rfl)) (by go_simp; first | done | rfl) ?_
            | refine ord_s (by rfl) (by rfl) (by rfl) (by go_simp; first | done | rfl) ?_
          refine ord_l (by rfl) (by rfl) (by rfl) ?_
          go_simp
          refine (HH1.out _).mono ?_
          rintro e w2 ⟨rfl, hb2⟩
          have hb2' : Below W2.heap.size W2 w2 := hb1'.trans (hb2.mono hb1'.size)
          refine ⟨HU.out _ hb2', ?_⟩
          refine ord_l (by rfl) (by rfl) (by rfl) ?_
          go_simp
          refine (HH2.out _).mono ?_
          rintro e w3 ⟨rfl, hb3⟩
          have hb3' : Below W2.heap.size W2 w3 := hb2'.trans (hb3.mono hb2'.size)
          refine ⟨HU.out _ hb3', ?_⟩
          repeat refine ord_q (by rfl) (by rfl) (by rfl) (fun w9 h9 => (by go_simp; first | done | rfl)) (by go_simp; first | done | rfl) ?_
          refine ⟨fun _ h => (by cases h), ?_⟩
          go_wp2
          go_ret
          exact ⟨rfl, HB2.out.trans (hb3'.mono HB2.out.size)⟩
    have t7 : (dh != 2) = true := by simp; omega
    as_aux_lemma =>
      go_wp2_with fail
      refine region_pre2 (fun X => Below W.heap.size W X) [0, 1, 2, 3, 4, 6, 7, 8, 9, 10] 6 (lst16 0 false false) (by kernel_rfl) (by kernel_rfl) (by rfl) (by kernel_rfl) (by kernel_rfl) ((Below.refl _ _).drew) ?_
      repeat refine pre_q (by rfl) (by rfl) (fun w9 h9 => (by obtain ⟨⟨p0, p1, p2, p3, p4, p5, p6, p7, pz⟩, ⟨q0, q1, q2, q3, q4, q5, q6, q7, qz⟩, ⟨r0, r1, r2, r3, r4, r5, r6, r7, r8, r9, r10, r11, rz⟩, ⟨s0, s1, s2, s3, s4, s5, s6, s7, s8, s9, s10, s11, sz⟩⟩ := HT.out w9 h9; clear h9; go_simp; first | done | rfl)) (by go_simp; first | done | rfl) ?_
      show wpAnyH _ _ _ _ _ _ _ _ _
      refine duo_region [12, 13, 62, 68] _ W _ 12 13 62 68 5 11 12 13 14 15 3 38 #[.int .i64 0, .int .i64 0, .slice none 0 0] (fun C => ∃ k s a9 ln c9, C = #[.int .i64 k, .int .i64 s, .slice a9 ln c9] ∧ (True → k = 0)) (fun C => ∃ k s a9 ln c9, C = #[.int .i64 k, .int .i64 s, .slice a9 ln c9] ∧ (True → k = 0)) lst16
        (by rfl) rfl (by rfl) rfl ?c1 ?c2 ?v1 ?v1 rfl (by kernel_rfl) (by rfl) rfl rfl ?rA (by rfl) rfl rfl ?rN ⟨_, _, _, rfl⟩ ⟨_, _, _, rfl⟩ (fun k N _ => rfl) (fun k A _ => rfl) ?hr ?hrn (fun A N => rfl) (fun A N => rfl) (by kernel_rfl) (by kernel_rfl) (by kernel_rfl) rfl (by decide) ?hsz ?fin (Below.refl _ _).drew
      case c1 =>
        intro a X K hf hb hk
        refine call_check _ _ _ _ _ _ (slot_eval (hf.slot (by decide) (by rfl))) (slot_eval (hf.slot (by decide) (by rfl))) (slot_eval (hf.slot (by decide) (by rfl))) ((HC1.out X).mono ?_)
        rintro e w' ⟨⟨k, s, a9, ln, c9, rfl, hk0⟩, hb'⟩
        exact ⟨_, rfl, hk _ _ ⟨k, s, a9, ln, c9, rfl, fun _ => hk0 ⟨n1, n2, n3, n4, n5, n6, n7⟩⟩ hb'⟩
      case c2 =>
        intro a X K hf hb hk
        refine call_check _ _ _ _ _ _ (slot_eval (hf.slot (by decide) (by rfl))) (slot_eval (hf.slot (by decide) (by rfl))) (slot_eval (hf.slot (by decide) (by rfl))) ((HC2.out X).mono ?_)
        rintro e w' ⟨⟨k, s, a9, ln, c9, rfl, hk0⟩, hb'⟩
        exact ⟨_, rfl, hk _ _ ⟨k, s, a9, ln, c9, rfl, fun _ => hk0 ⟨n1, n2, n3, n4, n5, n6, n7⟩⟩ hb'⟩
      case v1 => rintro C ⟨k, s, a9, ln, c9, rfl, _⟩; exact ⟨rfl, by simp [Value.oneCell']⟩
      case rA => intro a X; unfold execOp; simp [go_sem]
      case rN => intro a X; unfold execOp; simp [go_sem]
      case hr =>
        intro k A N hk
        match k, hk with
        | 0, _ => cases A <;> cases N <;> decide +kernel
        | 1, _ => cases A <;> cases N <;> decide +kernel
      case hrn =>
        intro A N h
        cases A <;> cases N <;> first | (cases h; done) | kernel_rfl
      case hsz => exact (by decide : ∀ s ∈ [12, 13, 62, 68], s < 93)
      case fin =>
        intro gC gD C1 C2 W2 a hfr pA pN p1' p2' e1 e2 hne hov lA lN zA zN rA rN
        obtain ⟨k, s, a9, ln, c9, rfl, hk⟩ := e1
        obtain ⟨k', s', a8, ln', c8, rfl, hk'⟩ := e2
        obtain rfl := hk trivial
        obtain rfl := hk' trivial
        refine ⟨fun _ h => (by cases h), ?_⟩
        obtain rfl := Fr.eq (l := [(12, _), (13, _), (62, _), (68, _)]) rfl hfr.defers hfr.size (fun t ht => hfr.out t (by simpa using ht)) (by intro p hp; simp only [List.mem_cons, List.not_mem_nil, or_false] at hp; rcases hp with rfl | rfl | rfl | rfl <;> assumption)
        simp only [List.foldl, Act.put, List.setIfInBounds_toArray, List.set_cons_zero, List.set_cons_succ]
        have hm1 : W2.cell? ⟨gC, 0, none⟩ = some (.int .i64 0) := rA 0 _ rfl
        have hm2 : W2.cell? ⟨gD, 0, none⟩ = some (.int .i64 0) := rN 0 _ rfl
        have HU : Hid (∀ w', Below W2.heap.size W2 w' → (CfgAt w' w.heap.size ca ci cn ch cg cl cs cd ∧ CfgAt w' (w.heap.size + 1) da di dn dh dg dl ds dd ∧ OpAt w' gA ca ch ci true ca true rs cm true fwd true cl ∧ OpAt w' gN da dh di true da true rs dm true fwd true dl) ∧ (w'.cell? ⟨gC, 0, none⟩ = some (.int .i64 0) ∧ w'.cell? ⟨gD, 0, none⟩ = some (.int .i64 0) ∧ gC < w'.heap.size ∧ gD < w'.heap.size)) := fun w' hb =>
          ⟨HT.out w' (hov.trans (hb.mono hov.size)), by rw [hb.cell (p := ⟨gC, 0, none⟩) zA]; exact hm1, by rw [hb.cell (p := ⟨gD, 0, none⟩) zN]; exact hm2, by have := hb.size; omega, by have := hb.size; omega⟩
        have HB2 : Hid (Below w.heap.size w W2) := HBW.out.trans (hov.mono HBW.out.size)
        clear hm1 hm2 rA rN hov lA lN zA zN hne HT HBW pA pN p1' p2' hfr HC1 HC2
        go_wp2_with fail
        refine region_ord (fun w' => (CfgAt w' w.heap.size ca ci cn ch cg cl cs cd ∧ CfgAt w' (w.heap.size + 1) da di dn dh dg dl ds dd ∧ OpAt w' gA ca ch ci true ca true rs cm true fwd true cl ∧ OpAt w' gN da dh di true da true rs dm true fwd true dl) ∧ (w'.cell? ⟨gC, 0, none⟩ = some (.int .i64 0) ∧ w'.cell? ⟨gD, 0, none⟩ = some (.int .i64 0) ∧ gC < w'.heap.size ∧ gD < w'.heap.size)) (fun k => k == 0 || k == 18 || k == 21) [0, 1, 2, 3, 4, 5, 6, 7, 8, 9, 10, 11, 12, 13, 14, 15, 16, 17, 19, 20, 18, 21, 22, 23, 24] (by kernel_rfl) (by kernel_rfl) (by rfl) (by kernel_rfl) (HU.out _ (Below.refl _ _).drew) ?_
        refine ord_l (by rfl) (by rfl) (by rfl) ?_
        go_simp
        refine (answers_any _).mono ?_
        rintro e w1 ⟨rfl, hb1⟩
        have hb1' : Below W2.heap.size W2 w1 := (Below.refl _ _).drew.trans hb1
        refine ⟨HU.out _ hb1', ?_⟩
        repeat first
          | refine ord_q (by rfl) (by rfl) (by rfl) (fun w9 h9 => (by obtain ⟨⟨⟨p0, p1, p2, p3, p4, p5, p6, p7, pz⟩, ⟨q0, q1, q2, q3, q4, q5, q6, q7, qz⟩, ⟨r0, r1, r2, r3, r4, r5, r6, r7, r8, r9, r10, r11, rz⟩, ⟨s0, s1, s2, s3, s4, s5, s6, s7, s8, s9, s10, s11, sz⟩⟩, m0, m1, mz, my⟩ := h9; go_simp; first | done | rfl)) (by go_simp; first | done | rfl) ?_
          | refine ord_s (by rfl) (by rfl) (by rfl) (by go_simp; first | done | rfl) ?_
        refine ord_l (by rfl) (by rfl) (by rfl) ?_
        go_simp
        refine (HH1.out _).mono ?_
        rintro e w2 ⟨rfl, hb2⟩
        have hb2' : Below W2.heap.size W2 w2 := hb1'.trans (hb2.mono hb1'.size)
        refine ⟨HU.out _ hb2', ?_⟩
        refine ord_l (by rfl) (by rfl) (by rfl) ?_
        go_simp
        refine (HH2.out _).mono ?_
        rintro e w3 ⟨rfl, hb3⟩
        have hb3' : Below W2.heap.size W2 w3 := hb2'.trans (hb3.mono hb2'.size)
        refine ⟨HU.out _ hb3', ?_⟩
        repeat refine ord_q (by rfl) (by rfl) (by rfl) (fun w9 h9 => (by go_simp; first | done | rfl)) (by go_simp; first | done | rfl) ?_
        refine ⟨fun _ h => (by cases h), ?_⟩
        go_wp2
        go_ret
        exact ⟨rfl, HB2.out.trans (hb3'.mono HB2.out.size)⟩
end Go.Proofs.Ytmpnnfbpknfekaa
