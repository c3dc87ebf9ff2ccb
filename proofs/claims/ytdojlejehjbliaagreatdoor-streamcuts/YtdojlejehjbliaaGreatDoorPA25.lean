import Derived.Test.YtdojlejehjbliaaGreatDoorPA24
namespace Go.Proofs.YtdojlejehjbliaaGreatDoor
set_option maxHeartbeats 6400000
open _root_.Go.Value renaming slice → I,int → V
open _root_.Go.IntKind renaming i64 → J
open _root_.Option renaming none → Z,some → R
open _root_.Go.Obj renaming cells → Q
open _root_.Array renaming getElem?_eq_some_iff → Y
open _root_.Nat renaming le_refl → U
open _root_.Go.Proofs.Tryz renaming prog → E
open _root_.List renaming setIfInBounds_toArray → D
open Go.RowKit
set_option maxRecDepth 100000
theorem Qid (a:Option Addr)(c:Nat)(bs:List Nat)(w:World)(hS:Qfa w)(hl:bs.length≤10000)(hc:bs.length≤c)(h:BRd w a bs) :
  Calls E 43 #[I a bs.length c] w fun e w'=>Qj0 w w' (Qbv bs) e∧Below w.heap.size w w':=by
 have hmf:∀ (fn:Fn) (first cap:Array Value) (w:World),(Instr.makeFunc fn first cap).run E w=.ok (.func fn first cap) w:=fun _ _ _ _=>rfl
 have HS:=Qaa hS
 have H:=Qaa h
 clear h hS
 generalize hbl:bs.length=bl at *
 go_enter_defers Tryz.func43,Tryz.ntmps43
 go_wp2_with (with_reducible refine Qno 97 _ (Qg2 _) ?_)
 simp only [Act.put,D,List.set_cons_zero,List.set_cons_succ,World.size_alloc]
 have HD0:=Qaa (Qus a bs w H.out)
 go_loopw [0] (fun v wq=>∃ rem a' c' x b seen,v=I a' rem.length c'∧rem.length≤c'∧Hid (Qsh bs w wq rem a' x b seen)) (fun v _=>sliceLen v)
 case atStart=>exact ⟨bs,a,c,_,_,_,by rw [hbl],by omega,HD0⟩
 case round =>
  clear HD0
  obtain ⟨rem,a',c',x,b,seen,rfl,hrc,HD⟩:=hrel
  have hcnt:=HD.out.cnt
  have hsz:=HD.out.sz
  rw [hbl] at hcnt
  by_cases hr0:0 < rem.length
  ·have HB1:=Qaa ((Below.refl wr.heap.size wr).alloc (U _) (Q #[V J 0,V J 0,I Z 0 0,I Z 0 0] 122))
   have hne0:rem≠[]:=List.length_pos_iff.1 hr0
   by_cases hfit:Qbj (rem.getD 0 0)≤rem.length∧Qbj (rem.getD 0 0)+Qbl rem≤rem.length
   ·have K:=Qaa (Qw2 a' c' rem (wr.alloc (Q #[V J 0,V J 0,I Z 0 0,I Z 0 0] 122)) hr0 (by omega) hrc (HD.out.rd.below HB1.out) hfit.2)
    obtain ⟨hb0,hb1⟩:rem.getD 0 0 < 256∧rem.getD 1 0 < 256:=⟨Qgm HD.out.rd 0,Qgm HD.out.rd 1⟩
    have HGO:Hid (rem.getD 1 0 ∉ seen→Qbv bs=Qmp (Qdz b (rem.getD 0 0) (rem.getD 1 0) ((rem.drop (Qbj (rem.getD 0 0))).take (Qbl rem)) (rem.take (Qbj (rem.getD 0 0)+Qbl rem))) fun a'=>Qpp (rem.drop (Qbj (rem.getD 0 0)+Qbl rem)) a' (rem.getD 1 0 :: seen)):=fun hns=>by
     rw [HD.out.run,Qmh hne0 (by rw [Qgo]; exact decide_eq_true ⟨hfit.1,hfit.2,hns⟩)]
    have HNO:Hid (rem.getD 1 0∈seen→Qbv bs=.inl (3,1,[])):=fun hns=>by
     rw [HD.out.run,Qkg hne0 (by rw [Qgo]; exact decide_eq_false (fun h9=>h9.2.2 hns))]
    have hh3:=Qhj (rem.getD 0 0)
    have hld:((rem.drop (Qbj (rem.getD 0 0))).take (Qbl rem)).length=Qbl rem:=by rw [List.length_take,List.length_drop]; omega
    have hla:(rem.take (Qbj (rem.getD 0 0)+Qbl rem)).length=Qbj (rem.getD 0 0)+Qbl rem:=by rw [List.length_take]; omega
    have hlr:(rem.drop (Qbj (rem.getD 0 0)+Qbl rem)).length=rem.length - (Qbj (rem.getD 0 0)+Qbl rem):=by rw [List.length_drop]
    have hn1:Qbl rem≤10000:=by omega
    have hn2:Qbj (rem.getD 0 0)+Qbl rem≤rem.length:=hfit.2
    have hn3:3≤Qbj (rem.getD 0 0)+Qbl rem:=by omega
    unfold Qlw at K
    generalize (rem.drop (Qbj (rem.getD 0 0))).take (Qbl rem)=d at *
    generalize rem.take (Qbj (rem.getD 0 0)+Qbl rem)=all at *
    generalize rem.drop (Qbj (rem.getD 0 0)+Qbl rem)=rest at *
    generalize Qbj (rem.getD 0 0)+Qbl rem=n2 at *
    generalize Qbl rem=n1 at *
    generalize rem.getD 0 0=fl at *
    generalize rem.getD 1 0=ty at *
    have HHD:=Qaa hfit
    clear hfit hh3
    have HRC:=Qaa hrc
    generalize hrl:rem.length=rl at *
    have hr1:(0:Int) < (rl:Int):=by omega
    go_wp2_with fail
    refine K.out.mono ?_
    rintro e w2 ⟨a1,k1,a2,k2,a3,k3,rfl,r1,hk1,r2,r3,hk3,l1,l2,l3,hb2⟩
    have HB2:Hid (Below wr.heap.size wr w2):=HB1.out.trans (hb2.mono (by simp))
    have hPs:wr.heap.size < w2.heap.size:=by have:=hb2.size; simp at this; omega
    have z0:w2.cell? ⟨wr.heap.size,0,Z⟩=R (V J 0):=by rw [hb2.cell (p:=⟨wr.heap.size,0,Z⟩) (by simp)]; simp [go_sem]
    have z1:w2.cell? ⟨wr.heap.size,1,Z⟩=R (V J 0):=by rw [hb2.cell (p:=⟨wr.heap.size,1,Z⟩) (by simp)]; simp [go_sem]
    have z2:w2.cell? ⟨wr.heap.size,2,Z⟩=R (I Z 0 0):=by rw [hb2.cell (p:=⟨wr.heap.size,2,Z⟩) (by simp)]; simp [go_sem]
    have z3:w2.cell? ⟨wr.heap.size,3,Z⟩=R (I Z 0 0):=by rw [hb2.cell (p:=⟨wr.heap.size,3,Z⟩) (by simp)]; simp [go_sem]
    have g0:w2.frozen? ⟨wr.heap.size,0,Z⟩=false:=by rw [hb2.frozen (p:=⟨wr.heap.size,0,Z⟩) (by simp)]; simp [go_sem]
    have g1:w2.frozen? ⟨wr.heap.size,1,Z⟩=false:=by rw [hb2.frozen (p:=⟨wr.heap.size,1,Z⟩) (by simp)]; simp [go_sem]
    have g2:w2.frozen? ⟨wr.heap.size,2,Z⟩=false:=by rw [hb2.frozen (p:=⟨wr.heap.size,2,Z⟩) (by simp)]; simp [go_sem]
    have g3:w2.frozen? ⟨wr.heap.size,3,Z⟩=false:=by rw [hb2.frozen (p:=⟨wr.heap.size,3,Z⟩) (by simp)]; simp [go_sem]
    have HD2:=Qaa (HD.out.later HB2.out)
    have cy:=(HD2.out.stood ty hb1).1
    have fy:=(HD2.out.stood ty hb1).2
    have hPY:wr.heap.size≠w.heap.size+1+1:=by omega
    have hYP:w.heap.size+1+1≠wr.heap.size:=by omega
    have HB3:Hid (Below wr.heap.size wr ((((w2.setCell ⟨wr.heap.size,0,Z⟩ (V J (fl:Int))).setCell ⟨wr.heap.size,1,Z⟩ (V J (ty:Int))).setCell ⟨wr.heap.size,2,Z⟩ (I a1 n1 k1)).setCell ⟨wr.heap.size,3,Z⟩ (I a2 n2 k2))):=(((HB2.out.setCell (U _) _).setCell (U _) _).setCell (U _) _).setCell (U _) _
    have hlowa:=HD.out.low
    rw [hrl] at hlowa
    have L1:Hid (∀ y,a1=R y→0 < d.length→y.block < w.heap.size):=fun y hy hp=>by
     obtain ⟨z,hz,e9⟩:=l1 (by rw [hld] at hp; exact hp) y hy
     rw [e9]; exact hlowa z hz hr0
    have L2:Hid (∀ y,a2=R y→0 < all.length→y.block < w.heap.size):=fun y hy _=>by
     obtain ⟨z,hz,e9⟩:=l2 y hy
     rw [e9]; exact hlowa z hz hr0
    have L3:Hid (∀ y,a3=R y→0 < rest.length→y.block < w.heap.size):=fun y hy hp=>by
     obtain ⟨z,hz,e9⟩:=l3 (by rw [hlr] at hp; omega) y hy
     rw [e9]; exact hlowa z hz hr0
    have hX1:w.heap.size < wr.heap.size:=by omega
    have S4:Hid (∀ k,k < w.heap.size→(((((w2.setCell ⟨wr.heap.size,0,Z⟩ (V J (fl:Int))).setCell ⟨wr.heap.size,1,Z⟩ (V J (ty:Int))).setCell ⟨wr.heap.size,2,Z⟩ (I a1 n1 k1)).setCell ⟨wr.heap.size,3,Z⟩ (I a2 n2 k2)).setCell ⟨w.heap.size+1+1,ty,Z⟩ (.bool true)).heap[k]?=(wr.alloc (Q #[V J 0,V J 0,I Z 0 0,I Z 0 0] 122)).heap[k]?):=fun k hk=>by
     rw [Qbk _ _ _ _ _ (by omega),Qbk _ _ _ _ _ (by omega),Qbk _ _ _ _ _ (by omega),Qbk _ _ _ _ _ (by omega),Qbk _ _ _ _ _ (by omega)]
     exact hb2.block k (by simp; omega)
    have R1:=Qaa (Qlo r1 L1.out S4.out)
    have R2:=Qaa (Qlo r2 L2.out S4.out)
    have R3:=Qaa (Qlo r3 L3.out S4.out)
    clear r1 r2 r3 l1 l2 l3 hlowa
    have i0:(0:Int)≤(ty:Int):=Int.natCast_nonneg _
    have i1:(ty:Int) < 256:=by omega
    clear hb2 HB1
    by_cases hseen:ty∈seen
    ·rw [decide_eq_true hseen] at cy
     have KT:Hid (∀ w1,Below wr.heap.size wr w1→Calls E 67 #[V J 1,I Z 0 0] w1 fun e w'=>Qbn wr w' 1 [] e):=fun w1 hb=>Qgk 1 wr w1 hb
     unfold Qbn at KT
     unfold Qdp at KT
     go_wp2_with fail
     refine (KT.out _ HB3.out).mono ?_
     rintro e w5 ⟨a9,c9,rfl,ho,hb5⟩
     have HD5:=Qaa (HD.out.later hb5)
     go_wp2
     exact Qhl rfl rfl rfl (Qan ho hsz) HD5.out.box HD5.out.note HD5.out.bel (HNO.out hseen)
    ·rw [decide_eq_false hseen] at cy
     have HD3:=Qaa (HD.out.later HB3.out)
     have HX4:Hid (Box (((((w2.setCell ⟨wr.heap.size,0,Z⟩ (V J (fl:Int))).setCell ⟨wr.heap.size,1,Z⟩ (V J (ty:Int))).setCell ⟨wr.heap.size,2,Z⟩ (I a1 n1 k1)).setCell ⟨wr.heap.size,3,Z⟩ (I a2 n2 k2)).setCell ⟨w.heap.size+1+1,ty,Z⟩ (.bool true)) w.heap.size (w.heap.size+3) x):=Qna HD3.out.box ⟨by omega,by omega⟩ _ _
     have HN4:Hid (Qz0 (((((w2.setCell ⟨wr.heap.size,0,Z⟩ (V J (fl:Int))).setCell ⟨wr.heap.size,1,Z⟩ (V J (ty:Int))).setCell ⟨wr.heap.size,2,Z⟩ (I a1 n1 k1)).setCell ⟨wr.heap.size,3,Z⟩ (I a2 n2 k2)).setCell ⟨w.heap.size+1+1,ty,Z⟩ (.bool true)) (w.heap.size+1)):=HD3.out.note.keeps (F:=fun k=>k=w.heap.size+1+1) ((Qae.refl _ _).setCell _ _ _ (.inl rfl)) (show ¬ (w.heap.size+1=w.heap.size+1+1) by omega)
     have HT4:Hid (Qh0 (((((w2.setCell ⟨wr.heap.size,0,Z⟩ (V J (fl:Int))).setCell ⟨wr.heap.size,1,Z⟩ (V J (ty:Int))).setCell ⟨wr.heap.size,2,Z⟩ (I a1 n1 k1)).setCell ⟨wr.heap.size,3,Z⟩ (I a2 n2 k2)).setCell ⟨w.heap.size+1+1,ty,Z⟩ (.bool true)) (w.heap.size+1+1) (ty :: seen)):=HD3.out.stood.put ty hb1
     have HB4:Hid (Below w.heap.size w (((((w2.setCell ⟨wr.heap.size,0,Z⟩ (V J (fl:Int))).setCell ⟨wr.heap.size,1,Z⟩ (V J (ty:Int))).setCell ⟨wr.heap.size,2,Z⟩ (I a1 n1 k1)).setCell ⟨wr.heap.size,3,Z⟩ (I a2 n2 k2)).setCell ⟨w.heap.size+1+1,ty,Z⟩ (.bool true))):=HD3.out.bel.setCell (show w.heap.size≤w.heap.size+1+1 by omega) _
     have hs4:w.heap.size+3≤(((((w2.setCell ⟨wr.heap.size,0,Z⟩ (V J (fl:Int))).setCell ⟨wr.heap.size,1,Z⟩ (V J (ty:Int))).setCell ⟨wr.heap.size,2,Z⟩ (I a1 n1 k1)).setCell ⟨wr.heap.size,3,Z⟩ (I a2 n2 k2)).setCell ⟨w.heap.size+1+1,ty,Z⟩ (.bool true)).heap.size:=by simp; omega
     have KI:=Qaa (Qxt fl ty a1 k1 a2 k2 d all w.heap.size (w.heap.size+3) x (((((w2.setCell ⟨wr.heap.size,0,Z⟩ (V J (fl:Int))).setCell ⟨wr.heap.size,1,Z⟩ (V J (ty:Int))).setCell ⟨wr.heap.size,2,Z⟩ (I a1 n1 k1)).setCell ⟨wr.heap.size,3,Z⟩ (I a2 n2 k2)).setCell ⟨w.heap.size+1+1,ty,Z⟩ (.bool true)) (HS.out.below HB4.out) hb0 (by omega) (by rw [hld]; exact hk1) R1.out (by omega) R2.out L2.out HX4.out hs4 (by have:=HD.out.rel.cnt; omega))
     rw [hld,hla] at KI
     unfold Qcb at KI
     obtain ⟨hst1,hst2⟩:=Qvx HD.out.rel fl ty d all hseen (by omega)
     have HGO2:=Qaa (HGO.out hseen)
     cases happ:Qix x fl ty d all with
     | inl nn =>
      rw [happ] at KI
      have HA:=Qaa (hst1 nn happ)
      have h3n:=Qm5 happ
      obtain ⟨nc,ns,nd⟩:=nn
      simp only at h3n
      subst h3n
      have HRR:Hid (Qbv bs=.inl (3,ns,nd)):=by show Qbv bs=_; rw [HGO2.out,HA.out,Ql3]
      unfold Qcv Qd9 Qdp at KI
      simp only at KI
      generalize hnd:nd.length=ndl at *
      clear hst1 hst2
      go_wp2_with fail
      refine KI.out.mono ?_
      rintro e w5 ⟨a9,c9,rfl,ho,hk5,x5,hx5⟩
      have HN5:=Qaa (HN4.out.keeps hk5 (by unfold Qa2; omega))
      have HB5:=Qaa (Qki HB4.out hk5 hs4)
      go_wp2
      exact Qhl rfl rfl hnd (Qan ho hs4) hx5 HN5.out HB5.out HRR.out
     | inr x5 =>
      rw [happ] at KI
      obtain ⟨b5,hA,hrel5⟩:=hst2 x5 happ
      have HRR:Hid (Qbv bs=Qpp rest b5 (ty :: seen)):=by show Qbv bs=_; rw [HGO2.out,hA,Qmg]
      unfold Qcv at KI
      simp only at KI
      have HREL:=Qaa hrel5
      clear hst1 hst2 hrel5 hA
      go_wp2_with fail
      refine KI.out.mono ?_
      rintro e w5 ⟨rfl,hx5,hk5⟩
      have HD5:Hid (Qsh bs w w5 rest a3 x5 b5 (ty :: seen)):=⟨Qlo R3.out L3.out (fun k hk=>hk5.block k (by have:=HB4.out.size; omega) (by unfold Qa2; omega)),L3.out,by rw [List.length_cons,hlr,hbl]; omega,hx5,HN4.out.keeps hk5 (by unfold Qa2; omega),HT4.out.keeps hk5 (by unfold Qa2; omega),HREL.out,HRR.out,Qki HB4.out hk5 hs4,Nat.le_trans hs4 hk5.size⟩
      clear hx5 hk5
      go_wp2
      refine ⟨⟨rest,a3,k3,x5,b5,ty :: seen,by rw [hlr],by rw [hlr]; exact hk3,HD5⟩,?_⟩
      simp [sliceLen]
      omega
   ·have K:=Qaa (Quv a' c' rem (wr.alloc (Q #[V J 0,V J 0,I Z 0 0,I Z 0 0] 122)) hr0 (by omega) hrc (HD.out.rd.below HB1.out) hfit)
    have HNO:Hid (Qbv bs=.inl (3,1,[])):=by
     show Qbv bs=_
     rw [HD.out.run,Qkg hne0 (by rw [Qgo]; exact decide_eq_false (fun h9=>hfit ⟨h9.1,h9.2.1⟩))]
    unfold Qbn at K
    unfold Qdp at K
    generalize hrl:rem.length=rl at *
    have hr1:(0:Int) < (rl:Int):=by omega
    go_wp2_with fail
    refine K.out.mono ?_
    rintro e w2 ⟨a9,c9,rfl,ho,hb2⟩
    have HD5:=Qaa (HD.out.later (HB1.out.trans (hb2.mono (by simp))))
    go_wp2
    exact Qhl rfl rfl rfl (Qan ho (by simp; omega)) HD5.out.box HD5.out.note HD5.out.bel HNO.out
  ·have hrem:rem=[]:=List.length_eq_zero_iff.1 (by omega)
   subst hrem
   have HFIN:Hid (Qbv bs=Qps b seen):=by show Qbv bs=_; rw [HD.out.run,Qgp]
   go_wp2
   go_loop [6] (fun i=>∃ k:Nat,1≤k∧k≤4∧i=V J k∧Hid (∀ j,1≤j→j < k→j∈seen)) (fun i=>4 - (intOf i).toNat)
   case atStart=>exact ⟨1,by omega,by omega,rfl,fun j h1 h2=>by omega⟩
   case round =>
    obtain ⟨k,hk1,hk4,rfl,HK⟩:=hrel
    by_cases hlt:k≤3
    ·have cy:=(HD.out.stood k (by omega)).1
     have j0:(0:Int)≤(k:Int):=Int.natCast_nonneg _
     have j1:(k:Int) < 256:=by omega
     have j3:(k:Int)≤3:=by omega
     by_cases hin:k∈seen
     ·rw [decide_eq_true hin] at cy
      go_wp2
      exact ⟨⟨k+1,by omega,by omega,by go_num,fun j h1 h2=>by
       by_cases e:j=k
       ·rw [e]; exact hin
       ·exact HK.out j h1 (by omega)⟩,by simp [intOf]; omega⟩
     ·rw [decide_eq_false hin] at cy
      have HRR:Hid (Qbv bs=.inl (3,3,[k])):=by
       show Qbv bs=_
       rw [HFIN.out]
       unfold Qps
       rcases (by omega:k=1∨k=2∨k=3) with rfl | rfl | rfl
       ·rw [if_pos hin]
       ·rw [if_neg (fun h9=>h9 (HK.out 1 (by omega) (by omega))),if_pos hin]
       ·rw [if_neg (fun h9=>h9 (HK.out 1 (by omega) (by omega))),if_neg (fun h9=>h9 (HK.out 2 (by omega) (by omega))),if_pos hin]
      have wk:IntKind.u8.wrap (k:Int)=(k:Int):=by rw [IntKind.wrap_u8]; omega
      have HBA:Hid (Below wr.heap.size wr (wr.alloc (Q #[V .u8 (k:Int)] 5))):=(Below.refl _ _).alloc (U _) _
      have HBR:Hid (BRd (wr.alloc (Q #[V .u8 (k:Int)] 5)) (R ⟨wr.heap.size,0,Z⟩) [k]):=⟨⟨by unfold maxLen; simp,fun _=>⟨wr.heap.size,0,rfl,fun i hi=>by
       have:i=0:=by simpa using hi
       subst this
       simp [go_sem]⟩⟩,fun y hy=>by simp at hy; omega⟩
      have KT:Hid (Calls E 67 #[V J 3,I (R ⟨wr.heap.size,0,Z⟩) 1 1] (wr.alloc (Q #[V .u8 (k:Int)] 5)) fun e w'=>Qbn wr w' 3 [k] e):=(Qj6 3 (R ⟨wr.heap.size,0,Z⟩) 1 [k] _ (by simp) HBR.out).mono fun _ _ h9=>h9.from HBA.out
      unfold Qbn at KT
      unfold Qdp at KT
      simp only [List.length_cons,List.length_nil,Nat.zero_add] at KT
      go_wp2_with fail
      refine KT.out.mono ?_
      rintro e w5 ⟨a9,c9,rfl,ho,hb5⟩
      have HD5:=Qaa (HD.out.later hb5)
      go_wp2
      exact Qhl rfl rfl rfl (Qan ho hsz) HD5.out.box HD5.out.note HD5.out.bel HRR.out
    ·have hk:k=4:=by omega
     subst hk
     have HRR:Hid (Qbv bs=.inr b):=by
      show Qbv bs=_
      rw [HFIN.out]
      unfold Qps
      rw [if_neg (fun h9=>h9 (HK.out 1 (by omega) (by omega))),if_neg (fun h9=>h9 (HK.out 2 (by omega) (by omega))),if_neg (fun h9=>h9 (HK.out 3 (by omega) (by omega)))]
     obtain ⟨p,cc,hv6,_⟩:=HD.out.box.c6
     have KS:=Qaa (Qw8 HD.out.box HD.out.rel (by have:=HD.out.rel.cnt; simp at hcnt; omega) hv6)
     generalize hrl:x.raws.length=rl at *
     clear hlt
     go_wp2_with fail
     refine KS.out.mono ?_
     rintro e w6 ⟨rfl,hx6,hk6⟩
     have q0:=hx6.c0
     have q2:=hx6.c2
     have q3:=hx6.c3
     have q4:=hx6.c4
     obtain ⟨p1,k1,q1,o1⟩:=hx6.c1
     obtain ⟨p5,k5,q5,o5⟩:=hx6.c5
     obtain ⟨p6,k6,q6,o6⟩:=hx6.c6
     have f0:=hx6.fz 0
     have f1:=hx6.fz 1
     have f2:=hx6.fz 2
     have f3:=hx6.fz 3
     have f4:=hx6.fz 4
     have f5:=hx6.fz 5
     have f6:=hx6.fz 6
     have HN6:=HD.out.note.keeps hk6 (by unfold Qa2; omega)
     have m0:=HN6.c0
     have m1:=HN6.c1
     have m2:=HN6.c2
     have e0:=HN6.fz 0
     have e1:=HN6.fz 1
     have e2:=HN6.fz 2
     have HB6:=Qaa (Qki HD.out.bel hk6 hsz)
     have HX6:=Qaa hx6
     have HZ:Hid (∀ w7,Qae (fun k=>k=w.heap.size∨k=w.heap.size+1) w6 w7→Qj0 w w7 (Qbv bs) (.returned (.tuple #[.agg #[V J b.origin,I p1 b.path.length k1,V .u32 (b.next:Int),V J b.med,V J b.pref,I p5 b.comms.length k5,I p6 b.raws.length k6],.agg #[V J 0,V J 0,I Z 0 0]]))∧Below w.heap.size w w7):=fun w7 hk7=>by
      refine ⟨?_,?_⟩
      ·rw [HRR.out]
       refine ⟨p1,k1,p5,k5,p6,k6,rfl,(o1.keeps hk7 (fun k h9=>by rcases h9 with h9 | h9 <;> omega)).base (by omega),Qan (Qdr o5 hk7 (fun k h9=>by rcases h9 with h9 | h9 <;> omega)) (by omega),?_⟩
       obtain ⟨cs,ho,hc⟩:=o6
       refine ⟨cs,Qan (Qdr ho hk7 (fun k h9=>by rcases h9 with h9 | h9 <;> omega)) (by omega),fun i r hi=>?_⟩
       obtain ⟨g1,g2,u,g3,g4⟩:=hc i r hi
       exact ⟨g1,g2,u,g3,Qan (Qdr g4 hk7 (fun k h9=>by rcases h9 with h9 | h9 <;> omega)) (by omega)⟩
      ·exact ⟨hk7.os.trans HB6.out.os,hk7.tape.trans HB6.out.tape,hk7.output.trans HB6.out.output,Nat.le_trans HB6.out.size hk7.size,fun k hk9=>by rw [hk7.block k (Nat.lt_of_lt_of_le hk9 HB6.out.size) (fun h9=>by rcases h9 with h9 | h9 <;> omega)]; exact HB6.out.block k hk9⟩
     clear o1 o5 o6 hx6 hk6 KS
     generalize b.path.length=n1 at *
     generalize b.comms.length=n5 at *
     generalize b.raws.length=n6 at *
     have hne1:w.heap.size≠w.heap.size+1:=by omega
     have hne2:w.heap.size+1≠w.heap.size:=by omega
     go_wp2_with fail
     go_region
     have hk7:Qae (fun k=>k=w.heap.size∨k=w.heap.size+1) w6 ((((((((((w6.setCell ⟨w.heap.size,0,Z⟩ (V J b.origin)).setCell ⟨w.heap.size,1,Z⟩ (I p1 n1 k1)).setCell ⟨w.heap.size,2,Z⟩ (V .u32 (b.next:Int))).setCell ⟨w.heap.size,3,Z⟩ (V J b.med)).setCell ⟨w.heap.size,4,Z⟩ (V J b.pref)).setCell ⟨w.heap.size,5,Z⟩ (I p5 n5 k5)).setCell ⟨w.heap.size,6,Z⟩ (I p6 n6 k6)).setCell ⟨w.heap.size+1,0,Z⟩ (V J 0)).setCell ⟨w.heap.size+1,1,Z⟩ (V J 0)).setCell ⟨w.heap.size+1,2,Z⟩ (I Z 0 0)).drew :=
      (((((((((((Qae.refl _ w6).setCell _ 0 _ (.inl (.inl rfl))).setCell _ 1 _ (.inl (.inl rfl))).setCell _ 2 _ (.inl (.inl rfl))).setCell _ 3 _ (.inl (.inl rfl))).setCell _ 4 _ (.inl (.inl rfl))).setCell _ 5 _ (.inl (.inl rfl))).setCell _ 6 _ (.inl (.inl rfl))).setCell _ 0 _ (.inl (.inr rfl))).setCell _ 1 _ (.inl (.inr rfl))).setCell _ 2 _ (.inl (.inr rfl))).drew
     obtain ⟨hz7,hb7⟩:=HZ.out _ hk7
     all_goals go_wp2
     all_goals exact Qq9 rfl rfl (by simp [go_sem,q0]) (by simp [go_sem,q1]) (by simp [go_sem,q2]) (by simp [go_sem,q3]) (by simp [go_sem,q4]) (by simp [go_sem,q5]) (by simp [go_sem,q6]) (by simp [go_sem,m0]) (by simp [go_sem,m1]) (by simp [go_sem,m2]) hz7 hb7
theorem Qg0 {dst:Option Tmp}{ty:TypeId}{pos:String}{after:Array Edge}{ρ:Operand→Value}(w:World):(execOp ρ { dst:=dst,op:=.build 36 #[],type:=ty,pos:=pos,after:=after,guard:=Z }).run E w=.ok (.value (.agg zU)) w:=by
 unfold execOp
 have e:((#[]:Array (Nat×Operand)).map fun (i,x)=>(i,ρ x))=#[]:=by simp
 simp only [e,Sem.run_bind,Qe2,Result.andThen_ok,Sem.run_pure]
section
attribute [local go_sem ↓] Qdv keptU_alloc Qd6 Qep
theorem Qor (a:Option Addr)(n c:Nat)(bs p q at_ nl:List Nat)(w:World)(hn:bs.length=n)(hl:n≤5000)(hcap:n≤c)(h:BRd w a bs)(h1:Qhb 2 bs=R (p,q))(h2:Qhb 2 q=R (at_,nl))(hS:Qfa w)(G N:List (Nat×Nat))(h3:Qda p=R G)(h4:Qda nl=R N)(h5:¬ (N=[]∧at_=[]))(k s:Nat)(d:List Nat)(h6:Qbv at_=.inl (k,s,d)) :
  Calls E 22 #[I a n c] w fun e w'=>Qks w w' e 3 s d∧Below w.heap.size w w':=by
 have HW:Hid (UW w ((w.alloc (Q zU 36)).alloc (Q #[V J 0,V J 0,I Z 0 0] 38))):=UW.made w
 obtain ⟨lp,lq⟩:=Qdi h1
 obtain ⟨la,ln⟩:=Qdi h2
 have hc1:=Qcw a c 2 bs ((w.alloc (Q zU 36)).alloc (Q #[V J 0,V J 0,I Z 0 0] 38)) (by omega) (by omega) (by omega) (by omega) (h.below HW.out.bel)
 rw [h1,hn] at hc1
 have HC1:=Qaa hc1
 have HC2:Hid (∀ m aq cq,q.length≤cq→BRd ((w.alloc (Q zU 36)).alloc (Q #[V J 0,V J 0,I Z 0 0] 38)) aq q→Calls E 39 #[I aq q.length cq,V J 2] (((w.alloc (Q zU 36)).alloc (Q #[V J 0,V J 0,I Z 0 0] 38)).drewN m) fun e w'=>∃ ap2 cp2 aq2 cq2,e=.returned (.tuple #[I ap2 at_.length cp2,I aq2 nl.length cq2,.bool true])∧at_.length≤cp2∧nl.length≤cq2∧Hid (BRd w' ap2 at_)∧Hid (BRd w' aq2 nl)∧Hid (Below ((w.alloc (Q zU 36)).alloc (Q #[V J 0,V J 0,I Z 0 0] 38)).heap.size ((w.alloc (Q zU 36)).alloc (Q #[V J 0,V J 0,I Z 0 0] 38)) w')):=fun m aq cq h5 h6=>by
  have:=Qcw aq cq 2 q (((w.alloc (Q zU 36)).alloc (Q #[V J 0,V J 0,I Z 0 0] 38)).drewN m) (by omega) (by omega) (by omega) h5 (h6.below ⟨rfl,rfl,rfl,U _,fun _ _=>rfl⟩)
  rw [h2] at this
  refine this.mono ?_
  rintro e w' ⟨⟨ap2,cp2,aq2,cq2,e1,e2,e3,e4,e5⟩,m2,rfl⟩
  have hb:Below (((w.alloc (Q zU 36)).alloc (Q #[V J 0,V J 0,I Z 0 0] 38)).drewN m).heap.size (((w.alloc (Q zU 36)).alloc (Q #[V J 0,V J 0,I Z 0 0] 38)).drewN m) ((((w.alloc (Q zU 36)).alloc (Q #[V J 0,V J 0,I Z 0 0] 38)).drewN m).drewN m2):=⟨rfl,rfl,rfl,U _,fun _ _=>rfl⟩
  exact ⟨ap2,cp2,aq2,cq2,e1,e2,e3,e4.below hb,e5.below hb,⟨rfl,rfl,rfl,U _,fun _ _=>rfl⟩⟩
 have KP1:Hid (∀ X ap cp,p.length≤cp→BRd X ap p→Calls E 42 #[I ap p.length cp] X fun e w'=>(∃ v,e=.returned (.tuple #[v,.bool true])∧w'.ownsRow X.heap.size 94 2 v G.length (pcells G))∧Below X.heap.size X w'):=fun X ap cp h5 h6=>by
  have:=Qd1 ap cp p X (by omega) h5 h6
  rw [h3] at this
  exact this
 have KP2:Hid (∀ X ap cp,nl.length≤cp→BRd X ap nl→Calls E 42 #[I ap nl.length cp] X fun e w'=>(∃ v,e=.returned (.tuple #[v,.bool true])∧w'.ownsRow X.heap.size 94 2 v N.length (pcells N))∧Below X.heap.size X w'):=fun X ap cp h5 h6=>by
  have:=Qd1 ap cp nl X (by omega) h5 h6
  rw [h4] at this
  exact this
 have KD:Hid (∀ X ap cp,Below w.heap.size w X→at_.length≤cp→BRd X ap at_→Calls E 43 #[I ap at_.length cp] X fun e w'=>Qj0 X w' (Qbv at_) e∧Below X.heap.size X w'):=fun X ap cp hX h5 h6=>Qid ap cp at_ X (hS.below hX) (by omega) h5 h6
 have hcase:((N.length:Int) == 0)=false∨(((N.length:Int) == 0)=true∧((at_.length:Int) == 0)=false):=by
  by_cases hN:N=[]
  ·refine .inr ⟨by simp [hN],?_⟩
   have:at_≠[]:=fun e=>h5 ⟨hN,e⟩
   have:at_.length≠0:=fun e=>this (List.length_eq_zero_iff.1 e)
   simp; omega
  ·refine .inl ?_
   have:N.length≠0:=fun e=>hN (List.length_eq_zero_iff.1 e)
   simp; omega
 unfold Qjl at HC1
 simp only [h6,Qj0] at KD
 unfold Qks Qby
 simp only at HC1
 clear h hc1 h1 h2 hn hl hcap lp lq la ln h3 h4 h5 h6 hS
 generalize q.length=nq at *
 generalize p.length=np at *
 generalize nl.length=nn at *
 generalize at_.length=na at *
 generalize G.length=gl at *
 generalize N.length=nlen at *
 generalize d.length=dl at *
 go_enter Tryz.func22,Tryz.ntmps22
 go_wp2_with (first | (refine Qbc _ (Qco w) ?_))
 refine HC1.out.mono ?_
 rintro e w1 ⟨⟨ap,cp,aq,cq,rfl,hp1,hq1,hp2,hq2⟩,m,rfl⟩
 have HP2:=Qaa hp2
 have HQ2:=Qaa hq2
 clear hp2 hq2
 go_wp2_with fail
 with_reducible refine (HC2.out m aq cq hq1 HQ2.out).mono ?_
 rintro e w2 ⟨ap2,cp2,aq2,cq2,rfl,hap,hnl,HA,HN,HB2⟩
 have HWX:=Qaa (HW.out.later HB2.out)
 go_wp2_with fail
 with_reducible refine (KP1.out w2 ap cp hp1 (HP2.out.below HB2.out)).mono ?_
 rintro e w3 ⟨⟨v,rfl,ho3⟩,hb3⟩
 obtain ⟨va,vc,rfl⟩:=Qcd ho3
 have HW3:=Qaa (HWX.out.later hb3)
 have HN3:=Qaa (HN.out.below hb3)
 have HA3:=Qaa (HA.out.below hb3)
 have hz2:w.heap.size+2≤w2.heap.size:=(Y.1 HWX.out.bN).1
 have hz3:w.heap.size+2≤w3.heap.size:=(Y.1 HW3.out.bN).1
 have HO3:=Qaa (Qan ho3 hz2)
 clear hb3 ho3
 go_wp2_with fail
 with_reducible refine (KP2.out w3 aq2 cq2 hnl HN3.out).mono ?_
 rintro e w4 ⟨⟨v2,rfl,ho4⟩,hb4⟩
 obtain ⟨ua,uc,rfl⟩:=Qcd ho4
 have HW4:=Qaa (HW3.out.later hb4)
 have HA4:=Qaa (HA3.out.below hb4)
 have HO4:=Qaa (Qan ho4 hz3)
 have HO3':=Qaa (Qaq HO3.out hb4)
 have hz4:w.heap.size+2≤w4.heap.size:=(Y.1 HW4.out.bN).1
 clear hb4 ho4
 have hUC:UC (Qct (I va gl vc) zA7 (I ua nlen uc)):=UC.upd rfl rfl rfl (by simp [zA7,Value.oneCell'])
 obtain ⟨W5,hst5,hb5,bel5⟩:=Qhc w4 (Qct (I va gl vc) zA7 (I ua nlen uc)) hUC
 have HW5:=Qaa (HW4.out.later bel5)
 have HA5:=Qaa (HA4.out.below bel5)
 have HST5:=Qaa hst5
 have HB5:=Qaa hb5
 have HOA:=Qaa (Qaq HO3'.out bel5)
 have HOB:=Qaa (Qaq HO4.out bel5)
 have hz5:w4.heap.size < W5.heap.size:=(Y.1 hb5).1
 clear hst5 hb5 bel5
 rcases hcase with hc9 | ⟨hc9,hc8⟩
 ·go_wp2_with (first
  | (refine Qcr 0 2 _ _ (I va gl vc) (I ua nlen uc) (.agg (Qct (I va gl vc) zA7 (I ua nlen uc))) (by rfl) (by rfl) (Qeu _ _ _ _ _ _ _) ?_)
  | (refine Qbc _ (Qco w4) ?_)
  | (refine Qa4 _ _ (.pointer (R ⟨w4.heap.size,0,Z⟩)) (.agg (Qct (I va gl vc) zA7 (I ua nlen uc))) (by rfl) (by rfl) HST5.out ?_))
  with_reducible refine (KD.out W5 ap2 cp2 HW5.out.bel hap HA5.out).mono ?_
  rintro e w6 ⟨⟨a9,c9,rfl,ho6⟩,hb6⟩
  have HW6:=Qaa (HW5.out.later hb6)
  have HO6:=Qaa ho6
  clear ho6 hb6
  go_wp2_with fail
  have HW7:Hid (UW w ((w6.alloc (Q zA7 34)).alloc (Q #[V J 3,V J (s:Int),I a9 dl c9] 38))):=(HW6.out.later ((Below.refl _ _).alloc (U _) _)).later ((Below.refl _ _).alloc (U _) _)
  have HX7:Hid (((w6.alloc (Q zA7 34)).alloc (Q #[V J 3,V J (s:Int),I a9 dl c9] 38)).heap[w6.heap.size+1]?=R (Q #[V J 3,V J (s:Int),I a9 dl c9] 38 (0,0))):=by
   have:=heap_alloc_new (w6.alloc (Q zA7 34)) (Q #[V J 3,V J (s:Int),I a9 dl c9] 38)
   rw [World.size_alloc] at this
   exact this
  have HO7:Hid (((w6.alloc (Q zA7 34)).alloc (Q #[V J 3,V J (s:Int),I a9 dl c9] 38)).ownsRow W5.heap.size 5 1 (I a9 dl c9) dl (Qal d)):=(HO6.out.alloc _).alloc _
  have hz6:w.heap.size+1 < w6.heap.size:=(Y.1 HW6.out.bN).1
  show Code.wp _ _ _ _ ((w6.alloc (Q zA7 34)).alloc (Q #[V J 3,V J (s:Int),I a9 dl c9] 38))
  generalize ((w6.alloc (Q zA7 34)).alloc (Q #[V J 3,V J (s:Int),I a9 dl c9] 38))=W7 at *
  refine Qcp _ W7 w.heap.size (w.heap.size+1) 36 zU zU #[V J 0,V J 0,I Z 0 0] #[V J 3,V J (s:Int),I a9 dl c9] 76 77 _ _ (opi rfl) (opi rfl) (opi rfl) (opi rfl) rfl (by kernel_rfl) (by kernel_rfl) (by kernel_rfl) (by kernel_rfl) (by kernel_rfl) (by kernel_rfl) (by kernel_rfl) (by kernel_rfl)
   (fun ty po af W' _=>Qg0 W') (fun ty po af W' hW=>Qbw (g:=w6.heap.size+1) (by rfl) (by
    rw [hW.block _ (Y.1 HX7.out).1 (by omega)]; exact HX7.out)) rfl rfl (show 76 < 85 by decide) (show 77 < 85 by decide) (by decide) HW7.out.bU HW7.out.bN (by omega) rfl rfl infoU infoN UC.zero.2 (by simp [Value.oneCell']) ?_
  simp only [Act.put,D,List.set_cons_zero,List.set_cons_succ]
  have HRM:Hid (((({ W7 with drawn:=W7.drawn+1 } : World).setCells w.heap.size 0 zU.toList).setCells (w.heap.size+1) 0 (#[Value.int J 3,V J (s:Int),I a9 dl c9]:Array Value).toList).rangeAt w.heap.size 0 zU.toList):=Qb7 (Qb2 (w:={ W7 with drawn:=W7.drawn+1 }) HW7.out.bU (U _)) (by omega)
  have HRN:Hid (((({ W7 with drawn:=W7.drawn+1 } : World).setCells w.heap.size 0 zU.toList).setCells (w.heap.size+1) 0 (#[Value.int J 3,V J (s:Int),I a9 dl c9]:Array Value).toList).rangeAt (w.heap.size+1) 0 (#[Value.int J 3,V J (s:Int),I a9 dl c9]:Array Value).toList) :=
   Qb2 (C0:=#[V J 0,V J 0,I Z 0 0]) (t:=38) (by rw [Qax (by omega)]; exact HW7.out.bN) (by simp)
  have HKe:Hid (Qae (fun x=>x=w.heap.size∨x=w.heap.size+1) W7 ((({ W7 with drawn:=W7.drawn+1 } : World).setCells w.heap.size 0 zU.toList).setCells (w.heap.size+1) 0 (#[Value.int J 3,V J (s:Int),I a9 dl c9]:Array Value).toList)) :=
   (Qae.setCells (w:=W7) (w1:={ W7 with drawn:=W7.drawn+1 }) ⟨rfl,rfl,rfl,U _,fun _ _ _=>rfl⟩ _ 0 _ (.inl (.inl rfl))).setCells _ 0 _ (.inl (.inr rfl))
  generalize ((({ W7 with drawn:=W7.drawn+1 } : World).setCells w.heap.size 0 zU.toList).setCells (w.heap.size+1) 0 (#[Value.int J 3,V J (s:Int),I a9 dl c9]:Array Value).toList)=W9 at *
  go_wp2_with fail
  refine bodyPost_ret (v:=.tuple #[.agg zU,.agg #[V J 3,V J (s:Int),I a9 dl c9]]) (Qar Tryz.results22 _ W9 w.heap.size (w.heap.size+1) zU _ rfl rfl HRM.out HRN.out Tryz.underlying36 rfl infoU Tryz.underlying38 rfl infoN) rfl ⟨⟨_,rfl,a9,c9,rfl,?_⟩,?_⟩
  ·exact Qa0 (Qas HO7.out HKe.out (fun x hx=>by omega)) (by omega)
  ·exact HW7.out.bel.trans (HKe.out.below _ HW7.out.bel.size (fun x e=>by omega))
 ·go_wp2_with (first
  | (refine Qcr 0 2 _ _ (I va gl vc) (I ua nlen uc) (.agg (Qct (I va gl vc) zA7 (I ua nlen uc))) (by rfl) (by rfl) (Qeu _ _ _ _ _ _ _) ?_)
  | (refine Qbc _ (Qco w4) ?_)
  | (refine Qa4 _ _ (.pointer (R ⟨w4.heap.size,0,Z⟩)) (.agg (Qct (I va gl vc) zA7 (I ua nlen uc))) (by rfl) (by rfl) HST5.out ?_))
  with_reducible refine (KD.out W5 ap2 cp2 HW5.out.bel hap HA5.out).mono ?_
  rintro e w6 ⟨⟨a9,c9,rfl,ho6⟩,hb6⟩
  have HW6:=Qaa (HW5.out.later hb6)
  have HO6:=Qaa ho6
  clear ho6 hb6
  go_wp2_with fail
  have HW7:Hid (UW w ((w6.alloc (Q zA7 34)).alloc (Q #[V J 3,V J (s:Int),I a9 dl c9] 38))):=(HW6.out.later ((Below.refl _ _).alloc (U _) _)).later ((Below.refl _ _).alloc (U _) _)
  have HX7:Hid (((w6.alloc (Q zA7 34)).alloc (Q #[V J 3,V J (s:Int),I a9 dl c9] 38)).heap[w6.heap.size+1]?=R (Q #[V J 3,V J (s:Int),I a9 dl c9] 38 (0,0))):=by
   have:=heap_alloc_new (w6.alloc (Q zA7 34)) (Q #[V J 3,V J (s:Int),I a9 dl c9] 38)
   rw [World.size_alloc] at this
   exact this
  have HO7:Hid (((w6.alloc (Q zA7 34)).alloc (Q #[V J 3,V J (s:Int),I a9 dl c9] 38)).ownsRow W5.heap.size 5 1 (I a9 dl c9) dl (Qal d)):=(HO6.out.alloc _).alloc _
  have hz6:w.heap.size+1 < w6.heap.size:=(Y.1 HW6.out.bN).1
  show Code.wp _ _ _ _ ((w6.alloc (Q zA7 34)).alloc (Q #[V J 3,V J (s:Int),I a9 dl c9] 38))
  generalize ((w6.alloc (Q zA7 34)).alloc (Q #[V J 3,V J (s:Int),I a9 dl c9] 38))=W7 at *
  refine Qcp _ W7 w.heap.size (w.heap.size+1) 36 zU zU #[V J 0,V J 0,I Z 0 0] #[V J 3,V J (s:Int),I a9 dl c9] 76 77 _ _ (opi rfl) (opi rfl) (opi rfl) (opi rfl) rfl (by kernel_rfl) (by kernel_rfl) (by kernel_rfl) (by kernel_rfl) (by kernel_rfl) (by kernel_rfl) (by kernel_rfl) (by kernel_rfl)
   (fun ty po af W' _=>Qg0 W') (fun ty po af W' hW=>Qbw (g:=w6.heap.size+1) (by rfl) (by
    rw [hW.block _ (Y.1 HX7.out).1 (by omega)]; exact HX7.out)) rfl rfl (show 76 < 85 by decide) (show 77 < 85 by decide) (by decide) HW7.out.bU HW7.out.bN (by omega) rfl rfl infoU infoN UC.zero.2 (by simp [Value.oneCell']) ?_
  simp only [Act.put,D,List.set_cons_zero,List.set_cons_succ]
  have HRM:Hid (((({ W7 with drawn:=W7.drawn+1 } : World).setCells w.heap.size 0 zU.toList).setCells (w.heap.size+1) 0 (#[Value.int J 3,V J (s:Int),I a9 dl c9]:Array Value).toList).rangeAt w.heap.size 0 zU.toList):=Qb7 (Qb2 (w:={ W7 with drawn:=W7.drawn+1 }) HW7.out.bU (U _)) (by omega)
  have HRN:Hid (((({ W7 with drawn:=W7.drawn+1 } : World).setCells w.heap.size 0 zU.toList).setCells (w.heap.size+1) 0 (#[Value.int J 3,V J (s:Int),I a9 dl c9]:Array Value).toList).rangeAt (w.heap.size+1) 0 (#[Value.int J 3,V J (s:Int),I a9 dl c9]:Array Value).toList) :=
   Qb2 (C0:=#[V J 0,V J 0,I Z 0 0]) (t:=38) (by rw [Qax (by omega)]; exact HW7.out.bN) (by simp)
  have HKe:Hid (Qae (fun x=>x=w.heap.size∨x=w.heap.size+1) W7 ((({ W7 with drawn:=W7.drawn+1 } : World).setCells w.heap.size 0 zU.toList).setCells (w.heap.size+1) 0 (#[Value.int J 3,V J (s:Int),I a9 dl c9]:Array Value).toList)) :=
   (Qae.setCells (w:=W7) (w1:={ W7 with drawn:=W7.drawn+1 }) ⟨rfl,rfl,rfl,U _,fun _ _ _=>rfl⟩ _ 0 _ (.inl (.inl rfl))).setCells _ 0 _ (.inl (.inr rfl))
  generalize ((({ W7 with drawn:=W7.drawn+1 } : World).setCells w.heap.size 0 zU.toList).setCells (w.heap.size+1) 0 (#[Value.int J 3,V J (s:Int),I a9 dl c9]:Array Value).toList)=W9 at *
  go_wp2_with fail
  refine bodyPost_ret (v:=.tuple #[.agg zU,.agg #[V J 3,V J (s:Int),I a9 dl c9]]) (Qar Tryz.results22 _ W9 w.heap.size (w.heap.size+1) zU _ rfl rfl HRM.out HRN.out Tryz.underlying36 rfl infoU Tryz.underlying38 rfl infoN) rfl ⟨⟨_,rfl,a9,c9,rfl,?_⟩,?_⟩
  ·exact Qa0 (Qas HO7.out HKe.out (fun x hx=>by omega)) (by omega)
  ·exact HW7.out.bel.trans (HKe.out.below _ HW7.out.bel.size (fun x e=>by omega))
end
