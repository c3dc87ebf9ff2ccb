import Derived.Test.YtdojlejehjbliaaGreatDoorPA19
import Derived.Test.YtdojlejehjbliaaGreatDoorPA10
namespace Go.Proofs.YtdojlejehjbliaaGreatDoor
set_option maxHeartbeats 4000000
open _root_.Go.Value renaming slice → I,int → Z
open _root_.Option renaming none → J,some → V
open _root_.Go.IntKind renaming i64 → Y
open _root_.Nat renaming le_refl → U
open _root_.Go.World renaming block_lt_of_cell? → K
open Go.RowKit
set_option maxRecDepth 100000
def Qi6 (f:Nat→Nat)(n:Nat):List Nat:=(List.range n).map fun k=>num (fun q=>f (4 * k+q))
theorem Qin (f:Nat→Nat)(n:Nat):(Qi6 f n).length=n:=by simp [Qi6]
theorem Qrl (l:List Nat)(j z:Nat)(h:l[j]?=V z):(Qb8 l)[j]?=V (Z .u32 (z:Int)):=by simp [Qb8,h]
def Qq3 (f:Nat→Nat)(k i:Nat):Nat:=Qca f (4 * i) (min 4 (k - 4 * i))
def Qeh (f:Nat→Nat)(n k:Nat):List Nat:=(List.range n).map (Qq3 f k)
theorem Qel (f:Nat→Nat)(n k:Nat):(Qeh f n k).length=n:=by simp [Qeh]
theorem Qol (f:Nat→Nat)(n:Nat):Qeh f n 0=List.replicate n 0:=by
 apply List.ext_getElem?
 intro i
 by_cases hi:i < n
 ·simp [Qeh,Qq3,hi,Qca]
 ·simp [Qeh,hi]
theorem Qpu (f:Nat→Nat)(n j q:Nat)(hq:q < 4):Qeh f n (4 * j+q+1)=(Qeh f n (4 * j+q)).set j (Qca f (4 * j) (q+1)):=by
 apply List.ext_getElem?
 intro i
 by_cases hi:i < n
 ·rw [List.getElem?_set]
  by_cases e:j=i
  ·subst e
   simp only [Qel,hi,if_true]
   simp [Qeh,Qq3,hi]
   rw [show min 4 (4 * j+q+1 - 4 * j)=q+1 from by omega]
  ·rw [if_neg e]
   simp only [Qeh,Qq3,List.getElem?_map,List.getElem?_range hi,Option.map_some]
   rw [show min 4 (4 * j+q+1 - 4 * i)=min 4 (4 * j+q - 4 * i) from by omega]
 ·rw [List.getElem?_eq_none (by rw [Qel]; omega),List.getElem?_eq_none (by rw [List.length_set,Qel]; omega)]
theorem Qsn (f:Nat→Nat)(n j q:Nat)(hq:q < 4)(hj:j < n):(Qeh f n (4 * j+q))[j]?=V (Qca f (4 * j) q):=by
 simp [Qeh,Qq3,hj]
 rw [show min 4 q=q from by omega]
theorem Qrj (f:Nat→Nat)(n:Nat):Qeh f n (4 * n)=Qi6 f n:=by
 apply List.ext_getElem?
 intro i
 by_cases hi:i < n
 ·simp [Qeh,Qq3,Qi6,hi]
  rw [show min 4 (4 * n - 4 * i)=4 from by omega,Qt2]
  rw [Qf0 f (fun q=>f (4 * i+q)) (4 * i) 0 4 (fun q _=>by show f (4 * i+q)=f (4 * i+(0+q)); rw [Nat.zero_add])]
 ·rw [List.getElem?_eq_none (by rw [Qel]; omega),List.getElem?_eq_none (by rw [Qin]; omega)]
theorem Jcj (f:Nat→Nat)(j q:Nat)(hq:q < 4)(hf:∀ i,i < 4→f (j+i) < 256):bits .or .u32 ((Qca f j q:Nat):Int) ((f (j+q):Int) * 2 ^ (8 * (3 - q)))=((Qca f j (q+1):Nat):Int)∧f (j+q) * 2 ^ (8 * (3 - q)) < 4294967296:=by
 have hfq:=hf q hq
 have hlt:f (j+q) * 2 ^ (8 * (3 - q)) < 4294967296:=by
  have h1:f (j+q) * 2 ^ (8 * (3 - q)) < 256 * 2 ^ (8 * (3 - q)):=Nat.mul_lt_mul_of_pos_right hfq (Nat.two_pow_pos _)
  have h2:2 ^ (8 * (3 - q))≤2 ^ 24:=Nat.pow_le_pow_right (by omega) (by omega)
  simp only [Nat.reducePow] at h2
  omega
 have e2:(f (j+q):Int) * 2 ^ (8 * (3 - q))=((f (j+q) * 2 ^ (8 * (3 - q)):Nat):Int):=by simp
 have hx:=Qd4 f j q (by omega) (fun i hi=>hf i (by omega))
 refine ⟨?_,hlt⟩
 rw [e2,u32_or_nat _ _ (by simpa using hx) hlt,Qme f j q hq hfq]
theorem Qiy (n:Nat)(hn:n≤100000)(w:World):(Instr.makeSlice 31 (Z Y (n:Int)) (Z Y (n:Int))).run Tryz.prog w =
  .ok (I (V ⟨w.heap.size,0,J⟩) n n) (w.alloc (.cells (Qb8 (List.replicate n 0)).toArray 24)):=by
 obtain ⟨i0,hi0,hz0,hz1,hz2⟩:=Qcz Tryz.infoU32
 have:=run_make (P:=Tryz.prog) w 31 24 i0 _ Tryz.underlying31 hi0 hz0 Y Y (n:Int) (n:Int) (by omega) (Int.le_refl _) (by rw [hz2]; omega) (by omega)
 simp only [Int.toNat_natCast,hz1,Value.cells,Nat.mul_one] at this
 rw [this]
 congr 3
 apply Array.ext_getElem?
 intro k
 by_cases hk:k < n
 ·simp [madeCells,Qb8,hk,Nat.mod_one]
 ·simp [madeCells,Qb8,hk]
theorem Qql (w:World)(n:Nat)(l:List Nat)(hl:l.length=n)(hn:n≤100000):(w.alloc (.cells (Qb8 l).toArray 24)).ownsRow w.heap.size 24 1 (I (V ⟨w.heap.size,0,J⟩) n n) n (Qb8 l) :=
 ⟨by rw [Qft]; omega,.inr ⟨w.heap.size,n,_,rfl,U _,by unfold World.alloc; exact Array.getElem?_push_size,U _,by unfold maxLen; omega,by simp [Qft,hl],by rw [Nat.mul_one,← hl,← Qft l,List.take_length]⟩⟩
theorem Qrw (l:List Nat)(j:Nat)(z:Nat):Qb8 (l.set j z)=(Qb8 l).set j (Z .u32 (z:Int)):=by simp [Qb8,List.map_set]
theorem Qln (b o n c:Nat)(f:Nat→Nat)(w:World)(hn:n≤5000)(hn0:0 < n)(hf:∀ i,i < 4 * n→f i < 256)(hcell:∀ i,i < 4 * n→w.cell? ⟨b,o+i,J⟩=V (Z .u8 (f i:Int))) :
  Calls Tryz.prog 99 #[I (V ⟨b,o,J⟩) (4 * n) c] w fun e w'=>e=.returned (I (V ⟨w.heap.size,0,J⟩) n n)∧w'.ownsRow w.heap.size 24 1 (I (V ⟨w.heap.size,0,J⟩) n n) n (Qb8 (Qi6 f n))∧Below w.heap.size w w':=by
 have HC:=Qaa hcell
 have HF:=Qaa hf
 clear hcell hf
 have hmk:=fun w=>Qiy n (by omega) w
 have HO0:Hid ((w.alloc (.cells (Qb8 (List.replicate n 0)).toArray 24)).ownsRow w.heap.size 24 1 (I (V ⟨w.heap.size,0,J⟩) n n) n (Qb8 (Qeh f n 0))):=by
  show World.ownsRow _ _ _ _ _ _ _
  rw [Qol]; exact Qql w n _ (by simp) (by omega)
 generalize hm:4 * n=m at *
 have hquo:Int.tdiv (m:Int) 4=(n:Int):=by rw [Int.tdiv_eq_ediv_of_nonneg (by omega)]; omega
 have HM:=Qaa hm
 have hmb:m≤20000:=by omega
 clear hm
 go_enter Tryz.func99,Tryz.ntmps99
 go_wp2
 go_loopw [12] (fun i wq=>∃ k:Nat,k≤m∧i=Z Y k∧Hid (wq.ownsRow w.heap.size 24 1 (I (V ⟨w.heap.size,0,J⟩) n n) n (Qb8 (Qeh f n k)))∧Hid (Below w.heap.size w wq)) (fun i _=>m - (intOf i).toNat)
 case atStart=>exact ⟨0,Nat.zero_le _,rfl,HO0,(Below.refl _ _).alloc (U _) _⟩
 case round =>
  obtain ⟨k,hk,rfl,HO,HB⟩:=hrel
  clear HO0
  by_cases hlt:k < m
  ·have ck:wr.cell? ⟨b,o+k,J⟩=V (Z .u8 (f k:Int)):=by
    rw [HB.out.cell (p:=⟨b,o+k,J⟩) (K w _ (HC.out k hlt))]
    exact HC.out k hlt
   obtain ⟨j,q,hq4,hjq⟩:∃ j q,q < 4∧k=4 * j+q:=⟨k / 4,k % 4,by omega,by omega⟩
   have hjn:j < n:=by have:=HM.out; omega
   have hj4:Int.tdiv (k:Int) 4=(j:Int):=by rw [Int.tdiv_eq_ediv_of_nonneg (by omega)]; omega
   have hq5:Int.tmod (k:Int) 4=(q:Int):=by rw [Int.tmod_eq_emod_of_nonneg (by omega)]; omega
   have hcj:wr.cell? ⟨w.heap.size,j,J⟩=V (Z .u32 ((Qca f (4 * j) q:Nat):Int)):=by
    rw [HO.out.cellAt j (by rw [Nat.mul_one]; exact hjn),hjq]
    exact Qrl _ j _ (Qsn f n j q hq4 hjn)
   have hzj:wr.frozen? ⟨w.heap.size,j,J⟩=false:=HO.out.frozenAt j
   obtain ⟨hor,hlo⟩:=Jcj f (4 * j) q hq4 (fun i hi=>HF.out (4 * j+i) (by have:=HM.out; omega))
   have hup:=Qd4 f (4 * j) q (by omega) (fun i hi=>HF.out (4 * j+i) (by have:=HM.out; omega))
   have hst:=HO.out.stored j (Z .u32 ((Qca f (4 * j) (q+1):Nat):Int))
   have HO2:Hid ((wr.setCell ⟨w.heap.size,j,J⟩ (Z .u32 ((Qca f (4 * j) (q+1):Nat):Int))).ownsRow w.heap.size 24 1 (I (V ⟨w.heap.size,0,J⟩) n n) n (Qb8 (Qeh f n (k+1)))):=by
    show World.ownsRow _ _ _ _ _ _ _
    rw [hjq,Qpu f n j q hq4,Qrw,← hjq]; exact hst.1
   have HB2:Hid (Below w.heap.size w (wr.setCell ⟨w.heap.size,j,J⟩ (Z .u32 ((Qca f (4 * j) (q+1):Nat):Int)))):=HB.out.setCell (U _) _
   rw [← hjq] at hor hlo
   have HFK:=HF.out k hlt
   have HOR:=Qaa hor
   have HLO:=Qaa hlo
   have HUP:=Qaa hup
   clear hst hor hlo hup hjq
   generalize Qca f (4 * j) (q+1)=x2 at *
   generalize Qca f (4 * j) q=x1 at *
   generalize f k=y at *
   have hk0:(0:Int)≤(k:Int):=Int.natCast_nonneg _
   have hk1:(k:Int) < (m:Int):=by omega
   have hjn2:(j:Int) < (n:Int):=by omega
   have hj0:(0:Int)≤(j:Int):=Int.natCast_nonneg _
   have wj:IntKind.i64.wrap (j:Int)=(j:Int):=by rw [IntKind.wrap_i64]; omega
   have wy8:IntKind.u32.wrap (y:Int)=(y:Int):=by rw [IntKind.wrap_u32]; omega
   have hqq:8 * (3 - q) < 32:=by omega
   generalize hqe:8 * (3 - q)=qq at *
   have wy:IntKind.u32.wrap ((y:Int) * 2 ^ qq)=(y:Int) * 2 ^ qq:=by
    have e2:(y:Int) * 2 ^ qq=((y * 2 ^ qq:Nat):Int):=by simp
    have:=HLO.out
    rw [e2,IntKind.wrap_u32]
    generalize y * 2 ^ qq=t at *
    omega
   have hz1:w.heap.size < wr.heap.size:=by have:=K wr _ hcj; simpa using this
   go_wp2_with fail
   go_region_with (go_at_call 123; refine (Qsl q _ hq4).mono ?_; rw [hqe]; rintro e w9 ⟨rfl,rfl⟩)
   all_goals rw [HOR.out]
   all_goals go_wp2
   all_goals exact ⟨⟨k+1,by omega,by go_num,HO2.out.drew,HB2.out.drew⟩,by simp [intOf]; omega⟩
  ·have hkm:k=4 * n:=by have:=HM.out; omega
   subst hkm
   rw [Qrj] at HO
   go_wp2
   go_ret
   exact ⟨rfl,HO.out,HB.out⟩
theorem Ql9 (a:Option Addr)(c:Nat)(f:Nat→Nat)(w:World) :
  Calls Tryz.prog 99 #[I a 0 c] w fun e w'=>e=.returned (I (V ⟨w.heap.size,0,J⟩) 0 0)∧w'.ownsRow w.heap.size 24 1 (I (V ⟨w.heap.size,0,J⟩) 0 0) 0 (Qb8 (Qi6 f 0))∧Below w.heap.size w w':=by
 have hmk:=fun w=>Qiy 0 (by omega) w
 simp only [Int.ofNat_zero] at hmk
 have HO0:Hid ((w.alloc (.cells (Qb8 (List.replicate 0 0)).toArray 24)).ownsRow w.heap.size 24 1 (I (V ⟨w.heap.size,0,J⟩) 0 0) 0 (Qb8 (Qi6 f 0))):=Qql w 0 _ (by simp) (by omega)
 go_enter Tryz.func99,Tryz.ntmps99
 go_wp2
 go_loop [12] (fun i=>i=Z Y 0) (fun i=>0 - (intOf i).toNat)
 case atStart=>exact rfl
 case round =>
  obtain rfl:=hrel
  go_wp2
  go_ret
  exact ⟨rfl,HO0.out,(Below.refl _ _).alloc (U _) _⟩
theorem Qis (b o n c:Nat)(f:Nat→Nat)(w:World)(hn:n≤5000)(hf:∀ i,i < 4 * n→f i < 256)(hcell:∀ i,i < 4 * n→w.cell? ⟨b,o+i,J⟩=V (Z .u8 (f i:Int))) :
  Calls Tryz.prog 99 #[I (V ⟨b,o,J⟩) (4 * n) c] w fun e w'=>e=.returned (I (V ⟨w.heap.size,0,J⟩) n n)∧w'.ownsRow w.heap.size 24 1 (I (V ⟨w.heap.size,0,J⟩) n n) n (Qb8 (Qi6 f n))∧Below w.heap.size w w':=by
 by_cases h0:n=0
 ·subst h0; exact Ql9 _ c f w
 ·exact Qln b o n c f w hn (by omega) hf hcell
theorem Qa7.under {w:World}{B X:Nat}{v:Value}{ss:List (Bool×List Int)} (h:Qa7 w B v ss) (hX:X < B) (j:Nat) (u:Value):Qa7 (w.setCell ⟨X,j,J⟩ u) B v ss:=by
 obtain ⟨cs,ho,hc⟩:=h
 refine ⟨cs,Qac ho hX j u,fun i s hi=>?_⟩
 obtain ⟨h1,x,h2,h3⟩:=hc i s hi
 exact ⟨h1,x,h2,Qac h3 hX j u⟩
theorem Qbr.under {w:World}{B X:Nat}{v:Value}{rs:List (Int×Int×List Nat)} (h:Qbr w B v rs) (hX:X < B) (j:Nat) (u:Value):Qbr (w.setCell ⟨X,j,J⟩ u) B v rs:=by
 obtain ⟨cs,ho,hc⟩:=h
 refine ⟨cs,Qac ho hX j u,fun i s hi=>?_⟩
 obtain ⟨h1,h2,x,h3,h4⟩:=hc i s hi
 exact ⟨h1,h2,x,h3,Qac h4 hX j u⟩
theorem Qa7.grown {w w':World}{B e size n:Nat}{v v0:Value}{xs:List Value}{ss:List (Bool×List Int)} (h:Qa7 w B v ss) (h0:w.ownsRow B e size v0 n xs) (hg:w.grownBy w' v0.ownBlock) (h1:134≠e) (h2:3≠e):Qa7 w' B v ss:=by
 obtain ⟨cs,ho,hc⟩:=h
 refine ⟨cs,Qdx ho hg (fun b hb=>Qdq ho h0 h1 b hb),fun i s hi=>?_⟩
 obtain ⟨g1,x,g2,g3⟩:=hc i s hi
 exact ⟨g1,x,g2,Qdx g3 hg (fun b hb=>Qdq g3 h0 h2 b hb)⟩
theorem Qg1 {w:World}{B:Nat}{v:Value}{ss:List (Bool×List Int)} (h:Qa7 w B v ss):∃ a c,v=I a ss.length c:=by
 obtain ⟨cs,ho,_⟩:=h
 exact Qbs ho
structure Box (w:World) (X B:Nat) (a:At):Prop where
 c0:w.cell? ⟨X,0,J⟩=V (Z Y a.origin)
 c1:∃ p c,w.cell? ⟨X,1,J⟩=V (I p a.path.length c)∧Qa7 w B (I p a.path.length c) a.path
 c2:w.cell? ⟨X,2,J⟩=V (Z .u32 (a.next:Int))
 c3:w.cell? ⟨X,3,J⟩=V (Z Y a.med)
 c4:w.cell? ⟨X,4,J⟩=V (Z Y a.pref)
 c5:∃ p c,w.cell? ⟨X,5,J⟩=V (I p a.comms.length c)∧w.ownsRow B 24 1 (I p a.comms.length c) a.comms.length (Qb8 a.comms)
 c6:∃ p c,w.cell? ⟨X,6,J⟩=V (I p a.raws.length c)∧Qbr w B (I p a.raws.length c) a.raws
 fz:∀ j,w.frozen? ⟨X,j,J⟩=false
 lt:X < B
theorem Box.pos {w:World}{X B:Nat}{a:At} (h:Box w X B a):X < w.heap.size:=by
 have:=K w _ h.c0
 simpa using this
theorem Box.later {w w':World}{X B:Nat}{a:At} (h:Box w X B a) (hb:Below w.heap.size w w'):Box w' X B a:=by
 have hX:=h.pos
 have e:∀ j,w'.cell? ⟨X,j,J⟩=w.cell? ⟨X,j,J⟩:=fun j=>hb.cell (p:=⟨X,j,J⟩) hX
 obtain ⟨p1,k1,g1,o1⟩:=h.c1
 obtain ⟨p5,k5,g5,o5⟩:=h.c5
 obtain ⟨p6,k6,g6,o6⟩:=h.c6
 exact ⟨by rw [e]; exact h.c0,⟨p1,k1,by rw [e]; exact g1,o1.later hb⟩,by rw [e]; exact h.c2,by rw [e]; exact h.c3,by rw [e]; exact h.c4,⟨p5,k5,by rw [e]; exact g5,Qaq o5 hb⟩,⟨p6,k6,by rw [e]; exact g6,o6.later hb⟩,fun j=>by rw [hb.frozen (p:=⟨X,j,J⟩) hX]; exact h.fz j,h.lt⟩
theorem Box.set {w:World}{X B:Nat}{a a':At} (h:Box w X B a) (k:Nat) (u:Value)
  (g0:(if k=0 then u else Z Y a.origin)=Z Y a'.origin)
  (g1:if k=1 then ∃ p c,u=I p a'.path.length c∧Qa7 w B u a'.path else a'.path=a.path)
  (g2:(if k=2 then u else Z .u32 (a.next:Int))=Z .u32 (a'.next:Int))
  (g3:(if k=3 then u else Z Y a.med)=Z Y a'.med)
  (g4:(if k=4 then u else Z Y a.pref)=Z Y a'.pref)
  (g5:if k=5 then ∃ p c,u=I p a'.comms.length c∧w.ownsRow B 24 1 u a'.comms.length (Qb8 a'.comms) else a'.comms=a.comms)
  (g6:if k=6 then ∃ p c,u=I p a'.raws.length c∧Qbr w B u a'.raws else a'.raws=a.raws):Box (w.setCell ⟨X,k,J⟩ u) X B a':=by
 have hX:=h.lt
 have key:∀ (j:Nat) (v:Value),w.cell? ⟨X,j,J⟩=V v→(w.setCell ⟨X,k,J⟩ u).cell? ⟨X,j,J⟩=V (if k=j then u else v):=fun j v hj=>by
  by_cases e:k=j
  ·subst e
   rw [if_pos rfl]
   exact World.cell?_setCell_same _ _ _ hj
  ·rw [if_neg e,World.cell?_setCell_other _ _ _ _ (by intro e9; injection e9 with _ e2 _; exact e e2)]
   exact hj
 obtain ⟨p1,k1,q1,o1⟩:=h.c1
 obtain ⟨p5,k5,q5,o5⟩:=h.c5
 obtain ⟨p6,k6,q6,o6⟩:=h.c6
 refine ⟨?_,?_,?_,?_,?_,?_,?_,fun j=>by rw [World.frozen?_setCell]; exact h.fz j,hX⟩
 ·rw [key 0 _ h.c0,g0]
 ·by_cases e:k=1
  ·rw [if_pos e] at g1
   obtain ⟨p,c,e1,o⟩:=g1
   refine ⟨p,c,?_,?_⟩
   ·rw [key 1 _ q1,if_pos e,e1]
   ·rw [← e1]; exact o.under hX _ _
  ·rw [if_neg e] at g1
   rw [g1]
   exact ⟨p1,k1,by rw [key 1 _ q1,if_neg e],o1.under hX _ _⟩
 ·rw [key 2 _ h.c2,g2]
 ·rw [key 3 _ h.c3,g3]
 ·rw [key 4 _ h.c4,g4]
 ·by_cases e:k=5
  ·rw [if_pos e] at g5
   obtain ⟨p,c,e1,o⟩:=g5
   refine ⟨p,c,?_,?_⟩
   ·rw [key 5 _ q5,if_pos e,e1]
   ·rw [← e1]; exact Qac o hX _ _
  ·rw [if_neg e] at g5
   rw [g5]
   exact ⟨p5,k5,by rw [key 5 _ q5,if_neg e],Qac o5 hX _ _⟩
 ·by_cases e:k=6
  ·rw [if_pos e] at g6
   obtain ⟨p,c,e1,o⟩:=g6
   refine ⟨p,c,?_,?_⟩
   ·rw [key 6 _ q6,if_pos e,e1]
   ·rw [← e1]; exact o.under hX _ _
  ·rw [if_neg e] at g6
   rw [g6]
   exact ⟨p6,k6,by rw [key 6 _ q6,if_neg e],o6.under hX _ _⟩
theorem Box.snoc {w:World}{X B:Nat}{a:At}{p:Option Addr}{c:Nat}{u:Value}{f t:Int}{ds:List Nat} (h:Box w X B a) (hB:B≤w.heap.size) (hl:a.raws.length≤100000) (hv:w.cell? ⟨X,6,J⟩=V (I p a.raws.length c)) (hu:w.ownsRow B 5 1 u ds.length (Qal ds)) (H:Nat) (hH:w.heap.size=H) :
  ∃ p' c' w',(Builtin.append_ #[32,32] 32 #[I p a.raws.length c,I (V ⟨H,0,J⟩) 1 1]).run Tryz.prog (w.alloc (.cells #[Z Y f,Z Y t,u] 102))=.ok (I p' (a.raws.length+1) c') w'∧Below B w w'∧Box (w'.setCell ⟨X,6,J⟩ (I p' (a.raws.length+1) c')) X B { a with raws:=a.raws++[(f,t,ds)] }:=by
 subst hH
 have hone:u.oneCell'=true:=Qlz hu
 obtain ⟨p6,k6,q6,o6⟩:=h.c6
 rw [hv] at q6
 simp only [Option.some.injEq,Value.slice.injEq,true_and] at q6
 obtain ⟨rfl,rfl⟩:=q6
 obtain ⟨p1,k1,q1,o1⟩:=h.c1
 obtain ⟨p5,k5,q5,o5⟩:=h.c5
 obtain ⟨cs,ho,hc⟩:=o6
 have hb1:Below B w (w.alloc (.cells #[Z Y f,Z Y t,u] 102)):=(Below.refl _ _).alloc hB _
 have hbw:Below w.heap.size w (w.alloc (.cells #[Z Y f,Z Y t,u] 102)):=(Below.refl _ _).alloc (U _) _
 have hoa:=ho.alloc (.cells #[Z Y f,Z Y t,u] 102)
 obtain ⟨v',w',hr,h2,h3,h4,_⟩:=Qe7 elemRaw (w:=w.alloc (.cells #[Z Y f,Z Y t,u] 102)) hoa (by simp; omega) ⟨w.heap.size,0,J⟩ 1 1 [Z Y f,Z Y t,u] rfl (fun j x hx=>by
  rw [Addr.add_mid,Nat.zero_add,World.cell?_alloc_mark]
  simpa using hx) (by intro x hx; simp at hx; rcases hx with rfl | rfl | rfl; rfl; rfl; exact hone) (by omega)
 obtain ⟨p',c',e'⟩:=Qbs h2
 subst e'
 have hB2:=h.lt
 have hbb:Below B w w':=hb1.trans h3
 have hap:∀ (x:Value) (ys:List Nat),w.ownsRow B 5 1 x ys.length (Qal ys)→w'.ownsRow B 5 1 x ys.length (Qal ys):=fun x ys hx =>
  Qdx (Qaq hx hbw) h4 (fun k hk=>Qdq hx ho (by decide) k hk)
 have hcl:cs.length=a.raws.length * 3:=ho.1
 have hR:Qbr w' B (I p' (a.raws.length+1) c') (a.raws++[(f,t,ds)]):=by
  refine ⟨_,by rw [List.length_append]; exact h2,fun i s hi=>?_⟩
  by_cases hlt:i < a.raws.length
  ·rw [List.getElem?_append_left hlt] at hi
   obtain ⟨g1,g2,x,g3,g4⟩:=hc i s hi
   exact ⟨by rw [List.getElem?_append_left (by omega)]; exact g1,by rw [List.getElem?_append_left (by omega)]; exact g2,x,by rw [List.getElem?_append_left (by omega)]; exact g3,hap x _ g4⟩
  ·rw [List.getElem?_append_right (by omega)] at hi
   have hi0:i - a.raws.length=0:=by
    have:=(List.getElem?_eq_some_iff.1 hi).1
    simpa using this
   rw [hi0] at hi
   simp at hi
   subst hi
   have e1:i=a.raws.length:=by omega
   subst e1
   refine ⟨by rw [List.getElem?_append_right (by omega),hcl,Nat.sub_self]; rfl,by rw [List.getElem?_append_right (by omega),show a.raws.length * 3+1 - cs.length=1 from by omega]; rfl,u,by rw [List.getElem?_append_right (by omega),show a.raws.length * 3+2 - cs.length=2 from by omega]; rfl,hap u ds hu⟩
 have eX:∀ j,w'.cell? ⟨X,j,J⟩=w.cell? ⟨X,j,J⟩:=fun j=>hbb.cell (p:=⟨X,j,J⟩) hB2
 have fX:∀ j,w'.frozen? ⟨X,j,J⟩=false:=fun j=>by rw [hbb.frozen (p:=⟨X,j,J⟩) hB2]; exact h.fz j
 have oP:Qa7 w' B (I p1 a.path.length k1) a.path:=(o1.later hbw).grown hoa h4 (by decide) (by decide)
 have oC:w'.ownsRow B 24 1 (I p5 a.comms.length k5) a.comms.length (Qb8 a.comms):=Qdx (Qaq o5 hbw) h4 (fun k hk=>Qdq o5 ho (by decide) k hk)
 have key:∀ (j:Nat) (v:Value),j≠6→w.cell? ⟨X,j,J⟩=V v→(w'.setCell ⟨X,6,J⟩ (I p' (a.raws.length+1) c')).cell? ⟨X,j,J⟩=V v:=fun j v hj hv9=>by
  rw [World.cell?_setCell_other _ _ _ _ (by intro e9; injection e9 with _ e2 _; exact hj e2.symm),eX]
  exact hv9
 refine ⟨p',c',w',hr,hbb,?_⟩
 ·exact ⟨key 0 _ (by omega) h.c0,⟨p1,k1,key 1 _ (by omega) q1,oP.under hB2 _ _⟩,key 2 _ (by omega) h.c2,key 3 _ (by omega) h.c3,key 4 _ (by omega) h.c4,⟨p5,k5,key 5 _ (by omega) q5,Qac oC hB2 _ _⟩,⟨p',c',by
   rw [List.length_append]
   exact World.cell?_setCell_same _ _ _ (by rw [eX]; exact hv),by
   rw [List.length_append]
   exact hR.under hB2 _ _⟩,fun j=>by rw [World.frozen?_setCell]; exact fX j,hB2⟩
def Qa2 (X B:Nat)(b:Nat):Prop:=b=X∨B≤b
theorem Qat {X B:Nat}{w w':World} (h:Below w.heap.size w w'):Qae (Qa2 X B) w w':=Qae.of_below h _
theorem Qgd {X B:Nat}{w w1 w2:World} (h:Qae (Qa2 X B) w w1) (k:Below B w1 w2):Qae (Qa2 X B) w w2 :=
 ⟨k.os.trans h.os,k.tape.trans h.tape,k.output.trans h.output,Nat.le_trans h.size k.size,fun b hb hn=>by
  rw [k.block b (by unfold Qa2 at hn; omega)]
  exact h.block b hb hn⟩
def Qd9 (X B:Nat)(w w':World)(s:Int)(d:List Nat)(e:Ending):Prop:=∃ a9 c9,e=Qdp s a9 d.length c9∧w'.ownsRow w.heap.size 5 1 (I a9 d.length c9) d.length (Qal d)∧Qae (Qa2 X B) w w'∧∃ a',Box w' X B a'
theorem Qbn.box {X B:Nat}{w w':World}{s:Int}{d:List Nat}{e:Ending}{a:At} (h:Qbn w w' s d e) (hb:Box w X B a):Qd9 X B w w' s d e:=by
 obtain ⟨a9,c9,he,ho,hb2⟩:=h
 exact ⟨a9,c9,he,ho,Qat hb2,a,hb.later hb2⟩
def Qcv (X B:Nat)(w w':World)(r:Res)(e:Ending):Prop :=
 match r with
 | .inl n=>Qd9 X B w w' (n.2.1:Int) n.2.2 e
 | .inr a'=>e=.returned (.tuple #[])∧Box w' X B a'∧Qae (Qa2 X B) w w'
section
variable {P:Program}{ops:Array Oper}{C:World→Prop}{Q:Exit→Act→World→Prop}{L:Nat}
def Qzd (P:Program)(ops:Array Oper)(C:World→Prop)(Q:Exit→Act→World→Prop)(L:Nat)(a:Act):Prop:=∀ w,C w→wpOp P ops Q L (fun _ _=>False) a w
def Ja0 (P:Program)(ops:Array Oper)(C:World→Prop)(Q:Exit→Act→World→Prop)(L:Nat):Nat→Array Bool→Act→Prop
 | 0,_,_=>False
 | n+1,listed,a=>Region.ready .any ops listed≠[]∧∀ i∈Region.ready .any ops listed,if i=L then Qzd P ops C Q L a else qOp P ops C i (Ja0 P ops C Q L n (listed.setIfInBounds i true)) a
theorem anyT_any:∀ (n:Nat)(listed:Array Bool)(a:Act)(w:World),C w→Ja0 P ops C Q L n listed a→wpAny P .any ops Q n listed a w
 | 0,_,_,_,_,h=>absurd h id
 | n+1,listed,a,w,hw,h=>by
  refine ⟨fun h0=>absurd h0 h.1,fun i hi=>?_⟩
  have h1:=h.2 i hi
  by_cases e:i=L
  ·rw [if_pos e] at h1
   subst e
   exact wpOp_mono (fun _ _ h9=>absurd h9 id) (h1 w hw)
  ·rw [if_neg e] at h1
   exact wpOp_of_qOp hw (fun a' w' hw' h9=>anyT_any n _ a' w' hw' h9) h1
theorem Qwc {oi oL:Oper}{v:Value}{a:Act} (hL:ops[L]?=V oL) (hap:oi.apart ops oL=true) (hsi:∀ cs b,oi.op≠.select cs b) (hsL:∀ cs b,oL.op≠.select cs b)
  (hQ:∀ c (a:Act) (d:Option Tmp) (v:Value) w,Q (.panic c) (a.put d v) w→Q (.panic c) a w) (hy:YieldsIn P ops C oi v a) (h:Qzd P ops C Q L (a.put oi.dst v)):Qzd P ops C Q L a:=fun w hw=>by
 have hy2:YieldsIf P ops (fun _=>False) oi v a:=by
  rcases hy with ⟨h1,_⟩ | h1
  ·exact .inl ⟨h1,fun _ h9=>absurd h9 id⟩
  ·exact .inr h1
 exact wpOp_mono (fun _ _ h9=>h9.2) (wpOp_putIf hL hap hsi hsL (fun c a w h9=>hQ c a _ _ w h9) hy2 (h w hw))
theorem Qle {i:Nat}{oi oL:Oper}{v:Value} (hi:ops[i]?=V oi) (hL:ops[L]?=V oL) (hne:i≠L) (hs:∀ (j:Nat) (o:Oper) cs b,ops[j]?=V o→o.op≠.select cs b) (hQ:∀ c (a:Act) (d:Option Tmp) (v:Value) w,Q (.panic c) (a.put d v) w→Q (.panic c) a w) :
  ∀ (n:Nat) (listed:Array Bool) (a:Act),
   (∀ j oj,ops[j]?=V oj→j≠i→listed.getD j true=false→(∀ e∈oj.after,Region.binds .any e=true→e.on≠i)→oi.apart ops oj=true) →
   i∈Region.ready .any ops listed→YieldsIn P ops C oi v a→Ja0 P ops C Q L n (listed.setIfInBounds i true) (a.put oi.dst v)→Ja0 P ops C Q L (n+1) listed a
 | 0,_,_,_,_,_,H=>absurd H id
 | n+1,listed,a,hfree,hr,hy,H=>by
  refine ⟨fun h=>(by rw [h] at hr; cases hr),fun j hj=>?_⟩
  by_cases hji:j=i
  ·subst hji
   rw [if_neg hne]
   exact hy.qOp hi H
  ·have h1:=H.2 j (ready_mono hj hji)
   obtain ⟨hjun,oj,hoj,hall⟩:=mem_ready.1 hj
   have hnot:∀ e∈oj.after,Region.binds .any e=true→e.on≠i:=fun e he hb heq=>by
    have g1:=hall e he hb
    have g0:=(mem_ready.1 hr).1
    rw [heq] at g1
    rcases Nat.lt_or_ge i listed.size with h' | h'
    ·simp [h'] at g0 g1; rw [g0] at g1; cases g1
    ·simp [Array.getElem?_eq_none h'] at g1
   have hap:=hfree j oj hoj hji hjun hnot
   by_cases e:j=L
   ·rw [if_pos e] at h1 ⊢
    subst e
    exact Qwc hoj hap (fun cs b=>hs i oi cs b hi) (fun cs b=>hs j oj cs b hoj) hQ hy h1
   ·rw [if_neg e] at h1 ⊢
    have h2:=qOp_put hoj hap (fun cs b=>hs i oi cs b hi) (fun cs b=>hs j oj cs b hoj) hy h1
    refine qOp_mono (fun a' h3=>Qle hi hL hne hs hQ n (listed.setIfInBounds j true) a' (fun k ok hk hki hun hno=>hfree k ok hk hki (by
     by_cases hjk:j=k
     ·subst hjk; exact hjun
     ·rw [getD_set_ne true hjk] at hun; exact hun) hno) (ready_mono hr (Ne.symm hji)) h3.1 ?_) h2
    rw [Array.setIfInBounds_comm _ _ hji]
    exact h3.2
theorem Qp2 {oL:Oper}(hL:ops[L]?=V oL)(hs:∀ (j:Nat) (o:Oper) cs b,ops[j]?=V o→o.op≠.select cs b)(hQ:∀ c (a:Act) (d:Option Tmp) (v:Value) w,Q (.panic c) (a.put d v) w→Q (.panic c) a w) :
  ∀ (l:List Oper) (k:Nat) (listed:Array Bool) (a:Act),k+l.length=L→(∀ j,j < l.length→l[j]?=ops[k+j]?)→Region.lexFrom .any ops (l.length+1) k listed=true→wpQuiet P ops C (fun a'=>Qzd P ops C Q L a') l a→Ja0 P ops C Q L (l.length+1) listed a
 | [],k,listed,a,hk,_,hB,h=>by
  have e:k=L:=hk
  subst e
  simp only [List.length_nil,Region.lexFrom,Bool.and_eq_true] at hB
  obtain ⟨⟨hr,_⟩,hB'⟩:=hB
  have hr2:k∈Region.ready .any ops listed:=by simpa using hr
  refine ⟨fun h0=>(by rw [h0] at hr2; cases hr2),fun j hj=>?_⟩
  by_cases e:j=k
  ·rw [if_pos e]; exact h
  ·have h9:=ready_mono hj e
   have h8:Region.ready .any ops (listed.setIfInBounds k true)=[]:=by simpa using hB'
   rw [h8] at h9
   cases h9
 | o :: l,k,listed,a,hk,hl,hB,h=>by
  have h0:ops[k]?=V o:=by simpa using (hl 0 (by simp)).symm
  rw [List.length_cons,Region.lexFrom] at hB
  simp only [Bool.and_eq_true] at hB
  obtain ⟨⟨hr,hf⟩,hB'⟩:=hB
  have hst:qOp P ops C k (wpQuiet P ops C (fun a'=>Qzd P ops C Q L a') l) a:=by unfold qOp; simp only [h0]; exact h
  obtain ⟨v,hy,hK⟩:=yieldsIn_of_qOp h0 hst
  refine Qle h0 hL (by simp at hk; omega) hs hQ (l.length+1) listed a (Region.free_spec h0 hf) (by simpa using hr) hy ?_
  exact Qp2 hL hs hQ l (k+1) _ _ (by simp at hk; omega) (fun j hj=>by
   have:=hl (j+1) (by simp; omega)
   simpa [Nat.add_assoc,Nat.add_comm 1 j] using this) hB' hK
end
theorem Qe3 {P:Program}{id:Nat}{Q:Exit→Act→World→Prop}{a:Act}{w:World}{l:List Oper}{o:Oper} (hm:P.follows .mixedOrders=true) (hB:Region.lexB .any l.toArray=true) (hQ:∀ c (a:Act) (d:Option Tmp) (v:Value) w,Q (.panic c) (a.put d v) w→Q (.panic c) a w) (ho:l.getLast?=V o)
  (h:wpQuiet P l.toArray (fun w'=>∃ x:Qap w,w'=x.w) (fun a'=>Region.wanted o (yielded l.toArray a'.tmps)=true∧∀ x:Qap w,o.wp P a' x.w (fun _ _=>False) Q) l.dropLast a):(Code.region id l.toArray true).wp P Q a w:=by
 have hne:l≠[]:=by intro e; rw [e] at ho; cases ho
 have hlen:0 < l.length:=List.length_pos_iff.2 hne
 simp only [Region.lexB,Bool.and_eq_true] at hB
 have hL:l.toArray[l.length - 1]?=V o:=by
  rw [List.getElem?_toArray,← List.getLast?_eq_getElem?]
  exact ho
 refine wp_region_any hm (anyT_any (C:=fun w'=>∃ x:Qap w,w'=x.w) (L:=l.length - 1) _ _ _ _ ⟨⟨{ w with drawn:=w.drawn+1 },⟨rfl,rfl,rfl,U _,fun _ _=>rfl⟩⟩,rfl⟩ ?_)
 have hmono:∀ (m:List Oper) (a:Act),wpQuiet P l.toArray (fun w'=>∃ x:Qap w,w'=x.w) (fun a'=>Region.wanted o (yielded l.toArray a'.tmps)=true∧∀ x:Qap w,o.wp P a' x.w (fun _ _=>False) Q) m a→wpQuiet P l.toArray (fun w'=>∃ x:Qap w,w'=x.w) (fun a'=>Qzd P l.toArray (fun w'=>∃ x:Qap w,w'=x.w) Q (l.length - 1) a') m a:=by
  intro m
  induction m with
  | nil =>
   intro a h9
   have h8:Region.wanted o (yielded l.toArray a.tmps)=true∧∀ x:Qap w,o.wp P a x.w (fun _ _=>False) Q:=h9
   show Qzd _ _ _ _ _ _
   intro w' hw'
   obtain ⟨x,rfl⟩:=hw'
   unfold wpOp
   rw [hL]
   simp only [h8.1,if_true]
   exact .inl (h8.2 x)
  | cons p m ih =>
   intro a h9
   unfold wpQuiet at h9 ⊢
   split
   ·rename_i hw
    rw [if_pos hw] at h9
    exact Oper.quiet_mono ih h9
   ·rename_i hw
    rw [if_neg hw] at h9
    exact ih _ h9
 have hd:l.dropLast.length+1=l.toArray.size:=by rw [List.length_dropLast,List.size_toArray]; omega
 have:=Qp2 (C:=fun w'=>∃ x:Qap w,w'=x.w) (Q:=Q) hL (Region.noSelect_spec hB.1) hQ l.dropLast 0 (Array.replicate l.toArray.size false) a (by rw [List.length_dropLast]; omega) (fun j hj=>by
  rw [Nat.zero_add,List.getElem?_toArray,List.getElem?_dropLast,if_pos (by rw [List.length_dropLast] at hj; exact hj)]) (by rw [hd]; exact hB.2) (hmono _ _ h)
 rwa [hd] at this
