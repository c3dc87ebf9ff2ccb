/- The program's appendNumber, appendTold, valueOfGR. -/
import Derived.Test.YtkmfnafecdfedaaGreatDoorHCp
import Derived.Lib.AppendStr
namespace Go.Proofs.YtkmfnafecdfedaaGreatDoor
open Go.RowKit
set_option maxRecDepth 100000

/-- The last s bytes of n, the highest first. -/
def nB (n s : Nat) : List Nat := (List.range s).map fun i => n / 2 ^ (8 * (s - 1 - i)) % 256
theorem nB4 (n : Nat) : nB n 4 = by4 n := rfl
theorem nB2 (n : Nat) : nB n 2 = [n / 256 % 256, n % 256] := by
  have e : nB n 2 = [n / 2 ^ (8 * 1) % 256, n / 2 ^ (8 * 0) % 256] := rfl
  rw [e]; simp
theorem nB3 (n : Nat) : nB n 3 = (by4 n).drop 1 := rfl
/-- The first k of them. -/
def nBup (n s k : Nat) : List Nat := (List.range k).map fun i => n / 2 ^ (8 * (s - 1 - i)) % 256
theorem nBup_succ (n s k : Nat) : nBup n s (k + 1) = nBup n s k ++ [n / 2 ^ (8 * (s - 1 - k)) % 256] := by
  unfold nBup
  rw [List.range_succ, List.map_append]; rfl
theorem nBup_length (n s k : Nat) : (nBup n s k).length = k := by simp [nBup]
/-- A byte behind a row that has no room. -/
theorem app_full {wq : World} {B g n : Nat} {bs : List Nat} (hn : bs.length = n) (hc : ∀ (j x : Nat), bs[j]? = some x → wq.cell? ⟨g, j, none⟩ = some (.int .u8 (x : Int))) (hB : B ≤ wq.heap.size) (y : Nat) (hl : n ≤ 1000) :
    ∃ v' w', (Builtin.append_ #[22, 22] 22 #[.slice (some ⟨g, 0, none⟩) n n, .slice (some ⟨wq.heap.size, 0, none⟩) 1 1]).run Tryz.prog (wq.alloc (.cells #[.int .u8 (y : Int)] 5)) = .ok v' w' ∧ w'.ownsRow B 5 1 v' (bs ++ [y]).length (bcells (bs ++ [y])) ∧ Below B wq w' := by
  obtain ⟨i, h1, h2, h3, h4⟩ := info_parts Tryz.infoU8
  have hr := run_append_grow (P := Tryz.prog) (wq.alloc (.cells #[.int .u8 (y : Int)] 5)) 22 22 5 i (.int .u8 0) Tryz.underlying22 h1 h2 ⟨g, 0, none⟩ n n (bcells bs) (by rw [bcells_length, h3]; omega) (fun j v hv => by
      have hj : j < bs.length := by have := (List.getElem?_eq_some_iff.1 hv).1; rwa [bcells_length] at this
      have hx := hc j bs[j] (List.getElem?_eq_getElem hj)
      have hlt := World.block_lt_of_cell? wq _ hx
      rw [Addr.add_mid, Nat.zero_add, World.cell?_alloc_lt _ _ _ hlt, hx, ← hv]
      simp [bcells, hj]) ⟨wq.heap.size, 0, none⟩ 1 1 [.int .u8 (y : Int)] (by rw [h3]; rfl) (fun j v hv => by
      rw [Addr.add_mid, Nat.zero_add, World.cell?_alloc_mark]
      simpa using hv) (by omega) (by omega) (by rw [h4]; exact growslice_fits (by omega) (by omega))
  have hlen : (bs ++ [y]).length = n + 1 := by rw [List.length_append, hn]; rfl
  have hwq : (wq.alloc (.cells #[.int .u8 (y : Int)] 5)).heap.size = wq.heap.size + 1 := by simp
  have hold : ∀ k, k < wq.heap.size → (wq.alloc (.cells #[.int .u8 (y : Int)] 5)).heap[k]? = wq.heap[k]? := fun k hk => heap_alloc_old wq _ hk
  have hos : (wq.alloc (.cells #[.int .u8 (y : Int)] 5)).os = wq.os ∧ (wq.alloc (.cells #[.int .u8 (y : Int)] 5)).tape = wq.tape ∧ (wq.alloc (.cells #[.int .u8 (y : Int)] 5)).output = wq.output := ⟨rfl, rfl, rfl⟩
  rw [hlen]
  generalize wq.alloc (.cells #[.int .u8 (y : Int)] 5) = W at *
  have hge := grownCap_ge W (n + 1) n 5
  have hle := grownCap_le_maxLen W (n + 1) n 5 (by unfold maxLen; omega)
  generalize grownCap W (n + 1) n 5 = cap at *
  have hz1 : (Value.int IntKind.u8 0).cells.size = 1 := rfl
  refine ⟨_, _, hr, ⟨by rw [bcells_length, hlen, Nat.mul_one], .inr ⟨W.heap.size, cap, _, rfl, by omega, heap_alloc_new (World.drew W) _, hge, hle, ?_, ?_⟩⟩, ⟨hos.1, hos.2.1, hos.2.2, by simp; omega, fun k hk => ?_⟩⟩
  · simp only [Array.size_append, List.size_toArray, size_zeroCells, hz1, bcells_length, hn, List.length_cons, List.length_nil]
    omega
  · rw [Nat.mul_one, bcells_app]
    simp only [Array.toList_append]
    exact List.take_left' (by simp [bcells]; omega)
  · rw [← hold k (by omega)]
    exact heap_alloc_old (World.drew W) _ (by show k < W.heap.size; omega)
section
attribute [local go_sem ↓] kept_append
set_option maxHeartbeats 1600000 in
theorem apnum_gen (B : Nat) (v : Value) (bs : List Nat) (n s : Nat) (w : World) (hs : s = 2 ∨ s = 3 ∨ s = 4) (hl : bs.length ≤ 1000) (hB : B ≤ w.heap.size)
    (hf : ∀ y : Nat, ∃ v' w', (Builtin.append_ #[22, 22] 22 #[v, .slice (some ⟨w.heap.size, 0, none⟩) 1 1]).run Tryz.prog (w.alloc (.cells #[.int .u8 (y : Int)] 5)) = .ok v' w' ∧ w'.ownsRow B 5 1 v' (bs ++ [y]).length (bcells (bs ++ [y])) ∧ Below B w w') :
    Calls Tryz.prog 137 #[v, .int .i64 (n : Int), .int .i64 (s : Int)] w fun e w' => ∃ v', e = .returned v' ∧ w'.ownsRow B 5 1 v' (bs ++ nB n s).length (bcells (bs ++ nB n s)) ∧ Below B w w' := by
  have HF := hide hf
  clear hf
  have hs4 : s ≤ 4 := by omega
  have HS0 : Hid (0 < s) := by show 0 < s; omega
  clear hs
  go_enter Tryz.func137, Tryz.ntmps137
  go_wp2
  go_loopw [0, 9] (fun u i wq => ∃ k : Nat, k ≤ s ∧ i = .int .i64 k ∧ Hid (k = 0 ∧ u = v ∧ wq = w ∨ wq.ownsRow B 5 1 u (bs ++ nBup n s k).length (bcells (bs ++ nBup n s k))) ∧ Hid (Below B w wq)) (fun _ i _ => s - (intOf i).toNat)
  case atStart => exact ⟨0, Nat.zero_le _, rfl, .inl ⟨rfl, rfl, rfl⟩, Below.refl _ _⟩
  case round =>
    obtain ⟨k, hk, rfl, HO, HB⟩ := hrel
    by_cases hks : k < s
    · have hgo : ∃ v3 w3, (Builtin.append_ #[22, 22] 22 #[u0, .slice (some ⟨wr.heap.size, 0, none⟩) 1 1]).run Tryz.prog (wr.alloc (.cells #[.int .u8 ((n / 2 ^ (8 * (s - 1 - k)) % 256 : Nat) : Int)] 5)) = .ok v3 w3 ∧ w3.ownsRow B 5 1 v3 (bs ++ nBup n s k ++ [n / 2 ^ (8 * (s - 1 - k)) % 256]).length (bcells (bs ++ nBup n s k ++ [n / 2 ^ (8 * (s - 1 - k)) % 256])) ∧ Below B wr w3 := by
        rcases HO.out with ⟨rfl, rfl, rfl⟩ | ho
        · obtain ⟨v3, w3, h1, h2, h3⟩ := HF.out (n / 2 ^ (8 * (s - 1 - 0)) % 256)
          exact ⟨v3, w3, h1, by rw [show nBup n s 0 = [] from rfl, List.append_nil]; exact h2, h3⟩
        · obtain ⟨v3, w3, h1, h2, h3, _⟩ := more_bytes ho (by have := HB.out.size; omega) [n / 2 ^ (8 * (s - 1 - k)) % 256] 1 #[.int .u8 ((n / 2 ^ (8 * (s - 1 - k)) % 256 : Nat) : Int)] rfl (by omega) rfl (by rw [List.length_append, nBup_length]; omega)
          exact ⟨v3, w3, h1, h2, h3⟩
      obtain ⟨v3, w3, hr3, ho3, hb3⟩ := hgo
      have HR3 := hide hr3
      have HO3 : Hid (k + 1 = 0 ∧ v3 = v ∧ w3 = w ∨ w3.ownsRow B 5 1 v3 (bs ++ nBup n s (k + 1)).length (bcells (bs ++ nBup n s (k + 1)))) := by
        refine .inr ?_
        rw [nBup_succ, ← List.append_assoc]; exact ho3
      have HB3 : Hid (Below B w w3) := HB.out.trans hb3
      have HV : Hid ((n : Int) / 2 ^ (8 * (s - 1 - k)) % 256 = ((n / 2 ^ (8 * (s - 1 - k)) % 256 : Nat) : Int)) := by
        show _ = _
        simp
      clear hr3 ho3 hb3 HO HB HF
      generalize ((n / 2 ^ (8 * (s - 1 - k)) % 256 : Nat)) = yy at *
      go_wp2_with fail
      refine kept_append_intro _ _ _ (.slice (some ⟨wr.heap.size, 0, none⟩) 1 1) v3 (w' := w3) (by rfl) (by rfl) (by rw [HV.out]; exact HR3.out) ?_
      go_wp2
      exact ⟨⟨k + 1, by omega, by go_num, HO3, HB3⟩, by simp [intOf]; omega⟩
    · have hke : k = s := by omega
      subst hke
      have HO4 : Hid (wr.ownsRow B 5 1 u0 (bs ++ nBup n k k).length (bcells (bs ++ nBup n k k))) := by
        rcases HO.out with ⟨h0, _, _⟩ | ho
        · exact absurd HS0.out (by omega)
        · exact ho
      clear HO
      go_wp2
      go_ret
      exact ⟨_, rfl, HO4.out, HB.out⟩
theorem apnum_any (B : Nat) (v : Value) (bs : List Nat) (n s : Nat) (w : World) (hs : s = 2 ∨ s = 3 ∨ s = 4) (hl : bs.length ≤ 1000) (hB : B ≤ w.heap.size) (ho : w.ownsRow B 5 1 v bs.length (bcells bs)) :
    Calls Tryz.prog 137 #[v, .int .i64 (n : Int), .int .i64 (s : Int)] w fun e w' => ∃ v', e = .returned v' ∧ w'.ownsRow B 5 1 v' (bs ++ nB n s).length (bcells (bs ++ nB n s)) ∧ Below B w w' :=
  apnum_gen B v bs n s w hs hl hB (fun y => by
    obtain ⟨v3, w3, h1, h2, h3, _⟩ := more_bytes ho hB [y] 1 #[.int .u8 (y : Int)] rfl (by omega) rfl (by omega)
    exact ⟨v3, w3, h1, h2, h3⟩)
set_option maxHeartbeats 1600000 in
theorem aptold_any (B : Nat) (v : Value) (bs : List Nat) (k : Nat) (a : Option Addr) (c : Nat) (zs : List Nat) (w : World) (hk : k < 256) (hz : zs.length < 256) (hl : bs.length ≤ 1000) (hB : B ≤ w.heap.size) (ho : w.ownsRow B 5 1 v bs.length (bcells bs)) (hr : BRd w a zs)
    (hap : ∀ x, a = some x → v.ownBlock ≠ some x.block) :
    Calls Tryz.prog 108 #[v, .int .i64 (k : Int), .slice a zs.length c] w fun e w' => ∃ v', e = .returned v' ∧ w'.ownsRow B 5 1 v' (bs ++ tlv k zs).length (bcells (bs ++ tlv k zs)) ∧ Below B w w' := by
  obtain ⟨v1, w1, hr1, ho1, hb1, hk1⟩ := more_bytes ho hB [k, zs.length] 2 #[.int .u8 (k : Int), .int .u8 (zs.length : Int)] rfl (by omega) rfl (by omega)
  have hrd : BRd w1 a zs := ⟨⟨hr.1.1, fun hp => by
    obtain ⟨b, off, rfl, hc⟩ := hr.1.2 hp
    refine ⟨b, off, rfl, fun i hi => ?_⟩
    have hx := hc i hi
    rw [World.cell?_of_block (w := w) (hk1 b (by have := World.block_lt_of_cell? w _ hx; simpa using this) (hap _ rfl))]
    exact hx⟩, hr.2⟩
  obtain ⟨g, c1, rfl, _, _⟩ := ho1.form (by simp)
  have hB1 : B ≤ w1.heap.size := Nat.le_trans hB hb1.size
  obtain ⟨v2, w2, hr2, ho2, hb2⟩ := app_brd zs a c rfl ho1 hB1 (by simp; omega) hrd
  have HR1 := hide hr1
  have HR2 := hide hr2
  have HO2 : Hid (w2.ownsRow B 5 1 v2 (bs ++ tlv k zs).length (bcells (bs ++ tlv k zs))) := by
    have e : bs ++ tlv k zs = bs ++ [k, zs.length] ++ zs := by simp [tlv]
    show World.ownsRow _ _ _ _ _ _ _
    rw [e]; exact ho2
  have HB2 : Hid (Below B w w2) := hb1.trans hb2
  clear hr1 hr2 ho1 ho2 hb1 hb2 hk1 hrd hr hap ho
  have hwk : IntKind.u8.wrap (k : Int) = (k : Int) := by rw [IntKind.wrap_u8]; omega
  have hwz : IntKind.u8.wrap (zs.length : Int) = (zs.length : Int) := by rw [IntKind.wrap_u8]; omega
  generalize zs.length = n at *
  generalize (bs ++ [k, n]).length = m1 at *
  go_enter Tryz.func108, Tryz.ntmps108
  go_wp2_with fail
  refine kept_append_intro _ _ _ (.slice (some ⟨w.heap.size, 0, none⟩) 2 2) _ (w' := w1) (by rfl) (by rfl) (by exact HR1.out) ?_
  go_wp2_with fail
  refine kept_append_intro _ _ _ _ _ (w' := w2) (by rfl) (by rfl) (by exact HR2.out) ?_
  go_wp2
  go_ret
  exact ⟨_, rfl, HO2.out, HB2.out⟩
end
end Go.Proofs.YtkmfnafecdfedaaGreatDoor
/- The program's valueOfGR. -/
namespace Go.Proofs.YtkmfnafecdfedaaGreatDoor
open Go.RowKit
set_option maxRecDepth 100000

/-- How a family's bytes begin. -/
theorem app_uni {w : World} {B : Nat} {v : Value} {bs : List Nat} (ho : w.ownsRow B 5 1 v bs.length (bcells bs)) (hB : B ≤ w.heap.size) (hl : bs.length ≤ 1000) :
    ∃ v' w', (Builtin.append_ #[22, 9] 22 #[v, .string ⟨#[0, 1, 1]⟩]).run Tryz.prog w = .ok v' w' ∧ w'.ownsRow B 5 1 v' (bs ++ [0, 1, 1]).length (bcells (bs ++ [0, 1, 1])) ∧ Below B w w' := by
  obtain ⟨i, h1, h2, h3, h4⟩ := info_parts Tryz.infoU8
  obtain ⟨v', w', hr, h5, h6, _⟩ := Go.Lib.run_append_own_string (P := Tryz.prog) w B 22 9 22 5 i Tryz.underlying22 Tryz.underlying9 h1 h2 h3 h4 v bs.length (bcells bs) ho ⟨#[0, 1, 1]⟩ (by unfold maxLen; show bs.length + 3 ≤ _; omega) (by show bs.length + 3 ≤ _; omega) hB
  refine ⟨v', w', hr, ?_, ((Keeps.refl (fun b => v.ownBlock = some b) w).grown h6 (fun b e => .inl e)).below B hB (fun b e => (own_block ho b e).1)⟩
  rw [bcells_app, List.length_append]
  exact h5
section
variable {P : Program} {a : Act} {w w' : World} {K : Act → World → Prop} {Q : Exit → Act → World → Prop} {dst : Option Tmp} {ty : TypeId} {pos : String} {after : Array Edge} {gd : Option (Nat × Bool)}
theorem kept_appstr (x y : Operand) : Oper.wp P { dst := dst, op := .call { callee := .builtin .append, args := #[x, y], argTypes := #[22, 9] }, type := ty, pos := pos, after := after, guard := gd } a w K Q = Kept P { dst := dst, op := .call { callee := .builtin .append, args := #[x, y], argTypes := #[22, 9] }, type := ty, pos := pos, after := after, guard := gd } a w K Q := rfl
theorem kept_appstr_intro (x y : Operand) (p q v : Value) (hx : a.eval x = p) (hy : a.eval y = q) (hr : (Builtin.append_ #[22, 9] ty #[p, q]).run P w = .ok v w') (h : K (a.put dst v) w') :
    Kept P { dst := dst, op := .call { callee := .builtin .append, args := #[x, y], argTypes := #[22, 9] }, type := ty, pos := pos, after := after, guard := gd } a w K Q := by
  unfold Kept Oper.wp execOp
  simp only [resolve, invoke, builtin, Sem.run_bind, Sem.run_pure, Result.andThen_ok, List.map_toArray, List.map_cons, List.map_nil, hx, hy, hr]
  exact h
end
section
attribute [local go_sem ↓] kept_append kept_appstr
theorem orI64 (x y : Nat) (hx : x < 4294967296) (hy : y < 4294967296) : bits .or .i64 (x : Int) (y : Int) = ((x ||| y : Nat) : Int) :=
  (bits_nat .i64 32 (by decide) (fun n h0 h1 => by rw [IntKind.wrap_i64]; simp only [Int.reducePow] at h1; omega) _ _ (by simpa using hx) (by simpa using hy)).2
theorem and64 (x y : Nat) (hx : x < 4294967296) (hy : y < 4294967296) : bits .and .i64 (x : Int) (y : Int) = ((x &&& y : Nat) : Int) :=
  (bits_nat .i64 32 (by decide) (fun n h0 h1 => by rw [IntKind.wrap_i64]; simp only [Int.reducePow] at h1; omega) _ _ (by simpa using hx) (by simpa using hy)).1
theorem or_high (T : Nat) (h : T ≤ 4095) : bits .or .i64 (T : Int) 32768 = ((T + 32768 : Nat) : Int) := by
  have e := orI64 T 32768 (by omega) (by omega)
  have e2 : T ||| 32768 = T + 32768 := by
    have := Nat.two_pow_add_eq_or_of_lt (i := 15) (b := T) (by simp only [Nat.reducePow]; omega) 1
    simp only [Nat.reducePow, Nat.mul_one] at this
    rw [Nat.or_comm, ← this]; omega
  rw [e2] at e
  exact e
set_option maxHeartbeats 1600000 in
/-- From the two bytes of the head on. -/
theorem valgr_go (four : Bool) (as4 : Int) (gr rs : Bool) (T Hd : Nat) (fam fwd ll : Bool) (lt : Int) (w : World) (hT : T ≤ 4095) (hH : Hd = T + if rs then 32768 else 0) :
    Calls Tryz.prog 138 #[capV ⟨four, as4, gr, rs, (T : Int), fam, fwd, ll, lt⟩] w fun e w' => ∃ v, e = .returned v ∧ w'.ownsRow w.heap.size 5 1 v (nB Hd 2 ++ famGR ⟨four, as4, gr, rs, (T : Int), fam, fwd, ll, lt⟩).length (bcells (nB Hd 2 ++ famGR ⟨four, as4, gr, rs, (T : Int), fam, fwd, ll, lt⟩)) ∧ Below w.heap.size w w' := by
  have HF : Hid (famGR ⟨four, as4, gr, rs, (T : Int), fam, fwd, ll, lt⟩ = if fam then [0, 1, 1, if fwd then 128 else 0] else []) := rfl
  generalize famGR ⟨four, as4, gr, rs, (T : Int), fam, fwd, ll, lt⟩ = fb at *
  have HN := hide (fun (W : World) (B : Nat) (h : B ≤ W.heap.size) => apnum_any B (.slice none 0 0) [] Hd 2 W (.inl rfl) (by simp) h (own_nil _ _ _ _))
  have hor := or_high T hT
  have HW : Hid (Below w.heap.size w (w.alloc (.cells #[.bool four, .int .i64 as4, .bool gr, .bool rs, .int .i64 (T : Int), .bool fam, .bool fwd, .bool ll, .int .i64 lt] 26))) := below_new _ _
  have HC : Hid (∀ X, Below (w.heap.size + 1) (w.alloc (.cells #[.bool four, .int .i64 as4, .bool gr, .bool rs, .int .i64 (T : Int), .bool fam, .bool fwd, .bool ll, .int .i64 lt] 26)) X → X.cell? ⟨w.heap.size, 5, none⟩ = some (.bool fam) ∧ X.cell? ⟨w.heap.size, 6, none⟩ = some (.bool fwd)) := fun X hb => by
    rw [hb.cell (p := ⟨w.heap.size, 5, none⟩) (Nat.lt_succ_self _), hb.cell (p := ⟨w.heap.size, 6, none⟩) (Nat.lt_succ_self _)]
    constructor <;> simp [go_sem]
  have HR : Hid (∀ W : World, Below (w.heap.size + 1) (w.alloc (.cells #[.bool four, .int .i64 as4, .bool gr, .bool rs, .int .i64 (T : Int), .bool fam, .bool fwd, .bool ll, .int .i64 lt] 26)) W → ∀ v, W.ownsRow (w.heap.size + 1) 5 1 v ([] ++ nB Hd 2).length (bcells ([] ++ nB Hd 2)) → ∃ v2 w2, (Builtin.append_ #[22, 9] 22 #[v, .string ⟨#[0, 1, 1]⟩]).run Tryz.prog W = .ok v2 w2 ∧ Below (w.heap.size + 1) W w2 ∧ ∀ z : Nat, ∃ v3 w3, (Builtin.append_ #[22, 22] 22 #[v2, .slice (some ⟨w2.heap.size, 0, none⟩) 1 1]).run Tryz.prog (w2.alloc (.cells #[.int .u8 (z : Int)] 5)) = .ok v3 w3 ∧ w3.ownsRow w.heap.size 5 1 v3 (nB Hd 2 ++ [0, 1, 1, z]).length (bcells (nB Hd 2 ++ [0, 1, 1, z])) ∧ Below (w.heap.size + 1) w2 w3) := fun W hb v ho => by
    have hs : w.heap.size + 1 ≤ W.heap.size := by have := hb.size; simpa using this
    obtain ⟨v2, w2, hr2, ho2, hb2⟩ := app_uni ho hs (by simp [nB])
    refine ⟨v2, w2, hr2, hb2, fun z => ?_⟩
    obtain ⟨v3, w3, hr3, ho3, hb3, _⟩ := more_bytes ho2 (Nat.le_trans hs hb2.size) [z] 1 #[.int .u8 (z : Int)] rfl (by omega) rfl (by simp [nB])
    refine ⟨v3, w3, hr3, ?_, hb3⟩
    have e : nB Hd 2 ++ [0, 1, 1, z] = [] ++ nB Hd 2 ++ [0, 1, 1] ++ [z] := by simp
    rw [e]
    exact own_base ho3 (Nat.le_succ _)
  unfold capV
  cases rs with
  | true =>
    rw [if_pos rfl] at hH
    rw [← hH] at hor
    clear hH
    cases fam with
    | true =>
      cases fwd with
      | true =>
        go_enter Tryz.func138, Tryz.ntmps138
        go_wp2_with fail
        refine (HN.out _ (w.heap.size + 1) (by simp)).mono ?_
        rintro e w1 ⟨v1, rfl, ho1, hb1⟩
        obtain ⟨c5, c6⟩ := HC.out w1 hb1
        obtain ⟨v2, w2, hr2, hb2, h3⟩ := HR.out w1 hb1 v1 ho1
        obtain ⟨v3, w3, hr3, ho3, hb3⟩ := h3 128
        obtain ⟨d5, d6⟩ := HC.out w2 (hb1.trans hb2)
        have HR2 := hide hr2
        have HR3 := hide hr3
        have HO3 : Hid (w3.ownsRow w.heap.size 5 1 v3 (nB Hd 2 ++ fb).length (bcells (nB Hd 2 ++ fb))) := by show World.ownsRow _ _ _ _ _ _ _; rw [HF.out]; exact ho3
        have HB3 : Hid (Below w.heap.size w w3) := HW.out.trans ((hb1.trans (hb2.trans hb3)).mono (Nat.le_succ _))
        clear hb1 ho1 hr2 hb2 h3 hr3 ho3 hb3 HC HR
        go_wp2_with fail
        refine kept_appstr_intro _ _ _ _ _ (w' := w2) (by rfl) (by rfl) (by exact HR2.out) ?_
        go_wp2_with fail
        refine kept_append_intro _ _ _ _ _ (w' := w3) (by rfl) (by rfl) (by exact HR3.out) ?_
        go_wp2
        go_ret
        exact ⟨_, rfl, HO3.out, HB3.out⟩
      | false =>
        go_enter Tryz.func138, Tryz.ntmps138
        go_wp2_with fail
        refine (HN.out _ (w.heap.size + 1) (by simp)).mono ?_
        rintro e w1 ⟨v1, rfl, ho1, hb1⟩
        obtain ⟨c5, c6⟩ := HC.out w1 hb1
        obtain ⟨v2, w2, hr2, hb2, h3⟩ := HR.out w1 hb1 v1 ho1
        obtain ⟨v3, w3, hr3, ho3, hb3⟩ := h3 0
        obtain ⟨d5, d6⟩ := HC.out w2 (hb1.trans hb2)
        have HR2 := hide hr2
        have HR3 := hide hr3
        have HO3 : Hid (w3.ownsRow w.heap.size 5 1 v3 (nB Hd 2 ++ fb).length (bcells (nB Hd 2 ++ fb))) := by show World.ownsRow _ _ _ _ _ _ _; rw [HF.out]; exact ho3
        have HB3 : Hid (Below w.heap.size w w3) := HW.out.trans ((hb1.trans (hb2.trans hb3)).mono (Nat.le_succ _))
        clear hb1 ho1 hr2 hb2 h3 hr3 ho3 hb3 HC HR
        go_wp2_with fail
        refine kept_appstr_intro _ _ _ _ _ (w' := w2) (by rfl) (by rfl) (by exact HR2.out) ?_
        go_wp2_with fail
        refine kept_append_intro _ _ _ _ _ (w' := w3) (by rfl) (by rfl) (by exact HR3.out) ?_
        go_wp2
        go_ret
        exact ⟨_, rfl, HO3.out, HB3.out⟩
    | false =>
      go_enter Tryz.func138, Tryz.ntmps138
      go_wp2_with fail
      refine (HN.out _ (w.heap.size + 1) (by simp)).mono ?_
      rintro e w1 ⟨v1, rfl, ho1, hb1⟩
      obtain ⟨c5, c6⟩ := HC.out w1 hb1
      have HO3 : Hid (w1.ownsRow w.heap.size 5 1 v1 (nB Hd 2 ++ fb).length (bcells (nB Hd 2 ++ fb))) := by show World.ownsRow _ _ _ _ _ _ _; rw [HF.out]; exact own_base (by simpa using ho1) (Nat.le_succ _)
      have HB3 : Hid (Below w.heap.size w w1) := HW.out.trans (hb1.mono (Nat.le_succ _))
      clear hb1 ho1 HC HR
      go_wp2
      go_ret
      exact ⟨_, rfl, HO3.out, HB3.out⟩
  | false =>
    rw [if_neg (by simp), Nat.add_zero] at hH
    subst hH
    clear hor
    cases fam with
    | true =>
      cases fwd with
      | true =>
        go_enter Tryz.func138, Tryz.ntmps138
        go_wp2_with fail
        refine (HN.out _ (w.heap.size + 1) (by simp)).mono ?_
        rintro e w1 ⟨v1, rfl, ho1, hb1⟩
        obtain ⟨c5, c6⟩ := HC.out w1 hb1
        obtain ⟨v2, w2, hr2, hb2, h3⟩ := HR.out w1 hb1 v1 ho1
        obtain ⟨v3, w3, hr3, ho3, hb3⟩ := h3 128
        obtain ⟨d5, d6⟩ := HC.out w2 (hb1.trans hb2)
        have HR2 := hide hr2
        have HR3 := hide hr3
        have HO3 : Hid (w3.ownsRow w.heap.size 5 1 v3 (nB Hd 2 ++ fb).length (bcells (nB Hd 2 ++ fb))) := by show World.ownsRow _ _ _ _ _ _ _; rw [HF.out]; exact ho3
        have HB3 : Hid (Below w.heap.size w w3) := HW.out.trans ((hb1.trans (hb2.trans hb3)).mono (Nat.le_succ _))
        clear hb1 ho1 hr2 hb2 h3 hr3 ho3 hb3 HC HR
        go_wp2_with fail
        refine kept_appstr_intro _ _ _ _ _ (w' := w2) (by rfl) (by rfl) (by exact HR2.out) ?_
        go_wp2_with fail
        refine kept_append_intro _ _ _ _ _ (w' := w3) (by rfl) (by rfl) (by exact HR3.out) ?_
        go_wp2
        go_ret
        exact ⟨_, rfl, HO3.out, HB3.out⟩
      | false =>
        go_enter Tryz.func138, Tryz.ntmps138
        go_wp2_with fail
        refine (HN.out _ (w.heap.size + 1) (by simp)).mono ?_
        rintro e w1 ⟨v1, rfl, ho1, hb1⟩
        obtain ⟨c5, c6⟩ := HC.out w1 hb1
        obtain ⟨v2, w2, hr2, hb2, h3⟩ := HR.out w1 hb1 v1 ho1
        obtain ⟨v3, w3, hr3, ho3, hb3⟩ := h3 0
        obtain ⟨d5, d6⟩ := HC.out w2 (hb1.trans hb2)
        have HR2 := hide hr2
        have HR3 := hide hr3
        have HO3 : Hid (w3.ownsRow w.heap.size 5 1 v3 (nB Hd 2 ++ fb).length (bcells (nB Hd 2 ++ fb))) := by show World.ownsRow _ _ _ _ _ _ _; rw [HF.out]; exact ho3
        have HB3 : Hid (Below w.heap.size w w3) := HW.out.trans ((hb1.trans (hb2.trans hb3)).mono (Nat.le_succ _))
        clear hb1 ho1 hr2 hb2 h3 hr3 ho3 hb3 HC HR
        go_wp2_with fail
        refine kept_appstr_intro _ _ _ _ _ (w' := w2) (by rfl) (by rfl) (by exact HR2.out) ?_
        go_wp2_with fail
        refine kept_append_intro _ _ _ _ _ (w' := w3) (by rfl) (by rfl) (by exact HR3.out) ?_
        go_wp2
        go_ret
        exact ⟨_, rfl, HO3.out, HB3.out⟩
    | false =>
      go_enter Tryz.func138, Tryz.ntmps138
      go_wp2_with fail
      refine (HN.out _ (w.heap.size + 1) (by simp)).mono ?_
      rintro e w1 ⟨v1, rfl, ho1, hb1⟩
      obtain ⟨c5, c6⟩ := HC.out w1 hb1
      have HO3 : Hid (w1.ownsRow w.heap.size 5 1 v1 (nB Hd 2 ++ fb).length (bcells (nB Hd 2 ++ fb))) := by show World.ownsRow _ _ _ _ _ _ _; rw [HF.out]; exact own_base (by simpa using ho1) (Nat.le_succ _)
      have HB3 : Hid (Below w.heap.size w w1) := HW.out.trans (hb1.mono (Nat.le_succ _))
      clear hb1 ho1 HC HR
      go_wp2
      go_ret
      exact ⟨_, rfl, HO3.out, HB3.out⟩
theorem valgr_any (c : Cp) (w : World) (h : gGR c = true) : Calls Tryz.prog 138 #[capV c] w fun e w' => ∃ v, e = .returned v ∧ w'.ownsRow w.heap.size 5 1 v (vGR c).length (bcells (vGR c)) ∧ Below w.heap.size w w' := by
  obtain ⟨h1, h2⟩ := gGR_tm h
  have hl := headGR_lt h
  have e : vGR c = nB (headGR c) 2 ++ famGR c := by
    rw [nB2]
    unfold vGR
    rw [Nat.mod_eq_of_lt (show headGR c / 256 < 256 by omega)]; rfl
  rw [e]
  obtain ⟨four, as4, gr, rs, tm, fam, fwd, ll, lt⟩ := c
  obtain ⟨T, rfl⟩ := Int.eq_ofNat_of_zero_le h1
  exact valgr_go four as4 gr rs T _ fam fwd ll lt w (by simp only at h2; omega) rfl
end
end Go.Proofs.YtkmfnafecdfedaaGreatDoor
