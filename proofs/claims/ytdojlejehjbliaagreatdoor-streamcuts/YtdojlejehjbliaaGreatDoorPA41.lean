import Derived.Test.YtdojlejehjbliaaGreatDoorPA40
import Derived.Deep.DrawnRows
namespace Go.Proofs.YtdojlejehjbliaaGreatDoor
set_option maxHeartbeats 6400000
open _root_.List renaming length_append → I
open _root_.Option renaming some → J,none → V
open _root_.Go.Value renaming slice → Z,int → Y
open Go.RowKit
set_option maxRecDepth 100000
def Qz7 (w:World)(X:Nat)(cs:List Value)(l:List (Nat×List Nat)):Prop:=∀ (i:Nat) (p:Nat×List Nat),l[i]?=J p→∃ a c,cs[i]?=J (Z a p.2.length c)∧p.2.length≤c∧BRd w a p.2∧∀ x,a=J x→0 < p.2.length→x.block≠X
def Qzx (l:List (Nat×List Nat)):List Int:=l.map fun p=>(p.1:Int)
theorem Qz7.snoc {w:World}{X:Nat}{cs:List Value}{l:List (Nat×List Nat)} (h:Qz7 w X cs l) (hl:cs.length=l.length) (k:Nat) (v:List Nat) (a:Option Addr) (c:Nat) (hc:v.length≤c) (hr:BRd w a v) (hx:∀ x,a=J x→0 < v.length→x.block≠X):Qz7 w X (cs++[Z a v.length c]) (l++[(k,v)]):=fun i p hi=>by
 by_cases hlt:i < l.length
 ·rw [List.getElem?_append_left hlt] at hi
  obtain ⟨a1,c1,h1,h2,h3⟩:=h i p hi
  exact ⟨a1,c1,by rw [List.getElem?_append_left (by omega)]; exact h1,h2,h3⟩
 ·rw [List.getElem?_append_right (by omega)] at hi
  have h0:i - l.length=0:=by have:=(List.getElem?_eq_some_iff.1 hi).1; simp at this; omega
  rw [h0] at hi
  simp at hi
  subst hi
  exact ⟨a,c,by rw [List.getElem?_append_right (by omega),hl,h0]; rfl,hc,hr,hx⟩
def Jbo (w:World)(X:Nat)(r:Option (List (Nat×List Nat)))(e:Ending)(w':World):Prop:=match r with
 | none=>e=.returned (.tuple #[Z V 0 0,Z V 0 0,.bool false])
 | some l=>∃ t v cs,e=.returned (.tuple #[t,v,.bool true])∧w'.ownsRow w.heap.size 3 1 t l.length (Qbi (Qzx l))∧w'.ownsRow w.heap.size 22 1 v l.length cs∧Qz7 w X cs l
section
variable {P:Program}{a:Act}{w w':World}{K:Act→World→Prop}{Q:Exit→Act→World→Prop}{dst:Option Tmp}{ty:TypeId}{pos:String}{after:Array Edge}{gd:Option (Nat×Bool)}
theorem Qvk (x y:Operand):Oper.wp P { dst:=dst,op:=.call { callee:=.builtin .append,args:=#[x,y],argTypes:=#[86,86] },type:=ty,pos:=pos,after:=after,guard:=gd } a w K Q=Qdl P { dst:=dst,op:=.call { callee:=.builtin .append,args:=#[x,y],argTypes:=#[86,86] },type:=ty,pos:=pos,after:=after,guard:=gd } a w K Q:=rfl
theorem Qb4 (x y:Operand)(p q v:Value)(hr:(Builtin.append_ #[86,86] ty #[p,q]).run P w=.ok v w')(hx:a.eval x=p)(hy:a.eval y=q)(h:K (a.put dst v) w') :
  Qdl P { dst:=dst,op:=.call { callee:=.builtin .append,args:=#[x,y],argTypes:=#[86,86] },type:=ty,pos:=pos,after:=after,guard:=gd } a w K Q:=by
 unfold Qdl Oper.wp execOp
 simp only [resolve,invoke,builtin,Sem.run_bind,Sem.run_pure,Result.andThen_ok,List.map_toArray,List.map_cons,List.map_nil,hx,hy,hr]
 exact h
theorem Qt0 (x y:Operand):Oper.wp P { dst:=dst,op:=.call { callee:=.builtin .append,args:=#[x,y],argTypes:=#[87,87] },type:=ty,pos:=pos,after:=after,guard:=gd } a w K Q=Qdl P { dst:=dst,op:=.call { callee:=.builtin .append,args:=#[x,y],argTypes:=#[87,87] },type:=ty,pos:=pos,after:=after,guard:=gd } a w K Q:=rfl
theorem Qb3 (x y:Operand)(p q v:Value)(hr:(Builtin.append_ #[87,87] ty #[p,q]).run P w=.ok v w')(hx:a.eval x=p)(hy:a.eval y=q)(h:K (a.put dst v) w') :
  Qdl P { dst:=dst,op:=.call { callee:=.builtin .append,args:=#[x,y],argTypes:=#[87,87] },type:=ty,pos:=pos,after:=after,guard:=gd } a w K Q:=by
 unfold Qdl Oper.wp execOp
 simp only [resolve,invoke,builtin,Sem.run_bind,Sem.run_pure,Result.andThen_ok,List.map_toArray,List.map_cons,List.map_nil,hx,hy,hr]
 exact h
end
section
attribute [local go_sem ↓] Go.wp_at_zero Go.wp_at_succ Qvk Qt0
theorem Qs4 (X:Nat)(a:Option Addr)(cap:Nat)(bs:List Nat)(w:World)(hl:bs.length≤5000)(hcap:bs.length≤cap)(hr:BRd w a bs)(hxx:∀ x,a=J x→0 < bs.length→x.block≠X) :
  Calls Tryz.prog 44 #[Z a bs.length cap] w fun e w'=>Jbo w X (Qkl bs) e w'∧Below w.heap.size w w':=by
 have HR:=Qaa hr
 have HXX:=Qaa hxx
 clear hr hxx
 obtain ⟨pr,hpr⟩:∃ pr,pr=Qkl bs:=⟨_,rfl⟩
 rw [← hpr]
 have HPR:Hid (pr=Qc7 (fun k v (l:List (Nat×List Nat))=>J (l++[(k,v)])) bs []):=hpr
 clear hpr
 go_enter Tryz.func44,Tryz.ntmps44
 go_wp2
 go_loopw [0,5,6] (fun u ut uv wq=>∃ (rest:List Nat) (a:Option Addr) (n cp:Nat) (l:List (Nat×List Nat)) (cs:List Value),u=Z a n cp∧Hid (rest.length=n)∧n≤cp∧n≤5000∧Hid (l.length+n≤5000)∧Hid (pr=Qc7 (fun k v (l:List (Nat×List Nat))=>J (l++[(k,v)])) rest l)∧Hid (BRd w a rest)∧Hid (wq.ownsRow w.heap.size 3 1 ut l.length (Qbi (Qzx l)))∧Hid (wq.ownsRow w.heap.size 22 1 uv l.length cs)∧Hid (Qz7 w X cs l)∧Hid (∀ x,a=J x→0 < n→x.block≠X)∧Hid (Below w.heap.size w wq)) (fun u _ _ _=>sliceLen u)
 case atStart=>exact ⟨bs,a,_,cap,[],[],rfl,rfl,hcap,hl,by show 0+bs.length≤5000; omega,HPR,HR,Qbm _ _ _ _,Qbm _ _ _ _,fun i p h=>by simp at h,HXX,Below.refl _ _⟩
 case round =>
  clear HR HPR HXX
  obtain ⟨rest,a1,n,cp,l,cs,rfl,HN,hnc,hn,HLN,HE,HB,HT,HV,HS,HXX,HK⟩:=hrel
  by_cases h0:n=0
  ·have HE2:Hid (pr=J l):=by
    show _=_
    rw [HE.out,List.eq_nil_of_length_eq_zero (HN.out.trans h0),Qhv]
   subst h0
   go_wp2
   go_ret3
   exact ⟨by rw [HE2.out]; exact ⟨_,_,cs,rfl,HT.out,HV.out,HS.out⟩,HK.out⟩
  ·have hne:rest≠[]:=fun e=>h0 (by rw [← HN.out,e]; rfl)
   have hn0:(0:Int) < (n:Int):=by omega
   by_cases h2:n < 2
   ·have HE2:Hid (pr=V):=by
     show _=_
     rw [HE.out,Qfx hne (decide_eq_false (fun h=>by rw [HN.out] at h; omega))]
    have h2i:(n:Int) < 2:=by omega
    go_wp2
    go_ret3
    exact ⟨by rw [HE2.out]; rfl,HK.out⟩
   ·obtain ⟨b,o,rfl,hc⟩:=HB.out.1.2 (by rw [HN.out]; omega)
    obtain ⟨lv,hl1⟩:∃ lv,lv=rest.getD 1 0:=⟨_,rfl⟩
    obtain ⟨k,hk1⟩:∃ k,k=rest.getD 0 0:=⟨_,rfl⟩
    have w1c:w.cell? ⟨b,o+1,V⟩=J (Y .u8 (lv:Int)):=by rw [hl1]; exact hc 1 (by rw [HN.out]; omega)
    have w0c:w.cell? ⟨b,o,V⟩=J (Y .u8 (k:Int)):=by rw [hk1]; exact hc 0 (by rw [HN.out]; omega)
    have hl256:lv < 256:=by rw [hl1]; exact Qau HB.out.2 1
    have hk256:k < 256:=by rw [hk1]; exact Qau HB.out.2 0
    have hbw:b < w.heap.size:=by have:=World.block_lt_of_cell? w _ w0c; simpa using this
    have HCW:Hid (∀ W,Below w.heap.size w W→W.cell? ⟨b,o,V⟩=J (Y .u8 (k:Int))∧W.cell? ⟨b,o+1,V⟩=J (Y .u8 (lv:Int))∧b < W.heap.size):=fun W hb=>⟨by rw [hb.cell (p:=⟨b,o,V⟩) hbw]; exact w0c,by rw [hb.cell (p:=⟨b,o+1,V⟩) hbw]; exact w1c,Nat.lt_of_lt_of_le hbw hb.size⟩
    obtain ⟨y0,y1,hbs⟩:=HCW.out wr HK.out
    have hn1:(1:Int) < (n:Int):=by omega
    have h2i:decide ((n:Int) < 2)=false:=decide_eq_false (by omega)
    by_cases hend:n < 2+lv
    ·have HE2:Hid (pr=V):=by
      show _=_
      rw [HE.out,Qfx hne (decide_eq_false (fun h=>by rw [HN.out,← hl1] at h; omega))]
     have hei:(n:Int) < 2+(lv:Int):=by omega
     clear HE HB hc hl1 hk1 hne h0 h2 HCW
     go_wp2
     go_ret3
     exact ⟨by rw [HE2.out]; rfl,HK.out⟩
    ·have hok:okE rest=true:=decide_eq_true (by rw [HN.out,← hl1]; omega)
     have HE2:Hid (pr=Qc7 (fun k v (l:List (Nat×List Nat))=>J (l++[(k,v)])) (rest.drop (2+lv)) (l++[(k,(rest.drop 2).take lv)])):=by
      show _=_
      rw [HE.out,Qhh hok,← hl1,← hk1]; rfl
     have hei:decide ((n:Int) < 2+(lv:Int))=false:=decide_eq_false (by omega)
     have hvl:((rest.drop 2).take lv).length=lv:=by rw [List.length_take,List.length_drop,HN.out]; omega
     have HND:Hid ((rest.drop (2+lv)).length=n - (2+lv)):=by show _=_; rw [List.length_drop,HN.out]
     have HLN2:Hid ((l++[(k,(rest.drop 2).take lv)]).length+(n - (2+lv))≤5000):=by show _≤_; have:=HLN.out; simp only [I,List.length_cons,List.length_nil]; omega
     have hcl:cs.length=l.length:=by have:=HV.out.1; omega
     have HSN:Hid (∀ a3 c3,(lv=0∨a3=J ⟨b,o+2,V⟩)→lv≤c3→Qz7 w X (cs++[Z a3 lv c3]) (l++[(k,(rest.drop 2).take lv)])):=fun a3 c3 ha hlc=>by
      have h9:=HS.out.snoc hcl k ((rest.drop 2).take lv) a3 c3 (by omega) ?_ (fun x hx hp=>by
       rcases ha with rfl | rfl
       ·rw [hvl] at hp; omega
       ·cases hx; exact HXX.out ⟨b,o,V⟩ rfl (by omega))
      ·rw [hvl] at h9; exact h9
      ·rcases ha with rfl | rfl
       ·rw [List.take_zero]; exact Qbf _ _
       ·exact Qcq HB.out 2 lv (by rw [HN.out]; omega)
     have hwk:IntKind.i64.wrap (k:Int)=(k:Int):=by rw [IntKind.wrap_i64]; omega
     have hwl:IntKind.i64.wrap (lv:Int)=(lv:Int):=by rw [IntKind.wrap_i64]; omega
     have hwl2:IntKind.i64.wrap (2+(lv:Int))=2+(lv:Int):=by rw [IntKind.wrap_i64]; omega
     have hs1:(2:Int)≤2+(lv:Int):=by omega
     have hs2:2+(lv:Int)≤(cp:Int):=by omega
     have hs3:2+(lv:Int)≤(n:Int):=by omega
     have HTY:Hid (Qzx (l++[(k,(rest.drop 2).take lv)])=Qzx l++[(k:Int)]):=by show _=_; simp [Qzx]
     clear HE hc hl1 hk1 hne h0 h2 hok w0c w1c
     have htn:(2+(lv:Int)).toNat - 2=lv:=by omega
     by_cases hc2:cp=2
     ·have hl0:lv=0:=by omega
      have hn2:n=2:=by omega
      subst hl0
      subst hn2
      subst hc2
      have hw0:IntKind.i64.wrap 0=0:=by decide
      have hw2:IntKind.i64.wrap 2=2:=by decide
      have hw20:IntKind.i64.wrap (2+0)=2:=by decide
      have HS2:=Qaa (HSN.out (J ⟨b,o,V⟩) 0 (.inl rfl) (by omega))
      obtain ⟨t1,w1,r1a,b1,v1,z1,r1b,e1⟩:=Qzj HT.out HV.out HK.out.size (by have:=HLN.out; omega) (k:Int) (J ⟨b,o,V⟩) (0) (0)
      obtain ⟨⟨t2,w2,r2a,b2,v2,z2,r2b,e2⟩,_⟩:=Qtk HT.out HV.out HK.out.size (by have:=HLN.out; omega) (k:Int) (J ⟨b,o,V⟩) (0) (0)
      obtain ⟨⟨t4,w4,r4a,b4,v4,z4,r4b,e4⟩,_⟩:=Qtm HT.out HV.out HK.out.size (by have:=HLN.out; omega) (k:Int) (J ⟨b,o,V⟩) (0) (0)
      obtain ⟨p1,q1,s1⟩:=HCW.out w1 (HK.out.trans b1)
      obtain ⟨p2,q2,s2⟩:=HCW.out w2 (HK.out.trans b2)
      obtain ⟨p4,q4,s4⟩:=HCW.out w4 (HK.out.trans b4)
      obtain ⟨P1,Q1,S1⟩:=HCW.out z1 (HK.out.trans e1.2.2)
      obtain ⟨P2,Q2,S2⟩:=HCW.out z2 (HK.out.trans e2.2.2)
      obtain ⟨P4,Q4,S4⟩:=HCW.out z4 (HK.out.trans e4.2.2)
      have R1a:=Qaa r1a
      have R1b:=Qaa r1b
      have R2a:=Qaa r2a
      have R2b:=Qaa r2b
      have R4a:=Qaa r4a
      have R4b:=Qaa r4b
      have E1:=Qaa e1
      have E2:=Qaa e2
      have E4:=Qaa e4
      clear r1a r1b r2a r2b r4a r4b e1 e2 e4 b1 b2 b4 HCW HSN
      have HSd:Hid (wr.drew.cell? ⟨b,o,V⟩=J (Y .u8 (k:Int))∧wr.drew.cell? ⟨b,o+1,V⟩=J (Y .u8 0)):=⟨y0,y1⟩
      have HS1:=Qaa (And.intro p1 q1)
      have HSz1:=Qaa (And.intro P1 Q1)
      have HSw2:=Qaa (And.intro p2 q2)
      have HSz2:=Qaa (And.intro P2 Q2)
      have HSw4:=Qaa (And.intro p4 q4)
      have HSz4:=Qaa (And.intro P4 Q4)
      go_wp2_with fail
      go_region_held3 (fun w'=>w'.cell? ⟨b,o,V⟩=J (Y .u8 (k:Int))∧w'.cell? ⟨b,o+1,V⟩=J (Y .u8 0))
       (first | (with_reducible first | exact HSd.out | exact HS1.out | exact HSz1.out | exact HSw2.out | exact HSz2.out | exact HSw4.out | exact HSz4.out) | go_keep)
       (first
       | (refine Qb4 _ _ u5 (Z (J ⟨wr.heap.size,0,V⟩) 1 1) t1 (w':=w1) (by with_reducible exact R1a.out) (by rfl) (by rfl) ?_)
       | (refine Qb3 _ _ u6 (Z (J ⟨w1.heap.size,0,V⟩) 1 1) v1 (w':=z1) (by with_reducible exact R1b.out) (by rfl) (by rfl) ?_)
       | (refine Qb4 _ _ u5 (Z (J ⟨wr.heap.size,0,V⟩) 1 1) t2 (w':=w2) (by with_reducible exact R2a.out) (by rfl) (by rfl) ?_)
       | (refine Qb3 _ _ u6 (Z (J ⟨wr.heap.size+1,0,V⟩) 1 1) v2 (w':=z2) (by with_reducible exact R2b.out) (by rfl) (by rfl) ?_)
       | (refine Qb4 _ _ u5 (Z (J ⟨wr.heap.size+1,0,V⟩) 1 1) t4 (w':=w4) (by with_reducible exact R4a.out) (by rfl) (by rfl) ?_)
       | (refine Qb3 _ _ u6 (Z (J ⟨wr.heap.size,0,V⟩) 1 1) v4 (w':=z4) (by with_reducible exact R4b.out) (by rfl) (by rfl) ?_))
      all_goals go_wp2
      all_goals first
       | exact ⟨⟨rest.drop (2+0),_,_,_,l++[(k,(rest.drop 2).take 0)],_,rfl,HND.out.trans (by omega),by omega,by omega,HLN2,HE2,by show BRd _ _ _; rw [List.eq_nil_of_length_eq_zero (HND.out.trans (by omega))]; exact Qbf _ _,by show World.ownsRow _ _ _ _ _ _ _; rw [HTY.out,I]; exact E1.out.1,by show World.ownsRow _ _ _ _ _ _ _; rw [I]; exact E1.out.2.1,HS2,fun x _ h=>absurd h (by omega),HK.out.trans E1.out.2.2⟩,by simp [sliceLen]⟩
       | exact ⟨⟨rest.drop (2+0),_,_,_,l++[(k,(rest.drop 2).take 0)],_,rfl,HND.out.trans (by omega),by omega,by omega,HLN2,HE2,by show BRd _ _ _; rw [List.eq_nil_of_length_eq_zero (HND.out.trans (by omega))]; exact Qbf _ _,by show World.ownsRow _ _ _ _ _ _ _; rw [HTY.out,I]; exact E2.out.1,by show World.ownsRow _ _ _ _ _ _ _; rw [I]; exact E2.out.2.1,HS2,fun x _ h=>absurd h (by omega),HK.out.trans E2.out.2.2⟩,by simp [sliceLen]⟩
       | exact ⟨⟨rest.drop (2+0),_,_,_,l++[(k,(rest.drop 2).take 0)],_,rfl,HND.out.trans (by omega),by omega,by omega,HLN2,HE2,by show BRd _ _ _; rw [List.eq_nil_of_length_eq_zero (HND.out.trans (by omega))]; exact Qbf _ _,by show World.ownsRow _ _ _ _ _ _ _; rw [HTY.out,I]; exact E4.out.1,by show World.ownsRow _ _ _ _ _ _ _; rw [I]; exact E4.out.2.1,HS2,fun x _ h=>absurd h (by omega),HK.out.trans E4.out.2.2⟩,by simp [sliceLen]⟩
     ·by_cases hce:cp=2+lv
      ·have hl0:¬ lv=0:=by omega
       subst hce
       have HS2:=Qaa (HSN.out (J ⟨b,o+2,V⟩) lv (.inr rfl) (by omega))
       obtain ⟨t1,w1,r1a,b1,v1,z1,r1b,e1⟩:=Qzj HT.out HV.out HK.out.size (by have:=HLN.out; omega) (k:Int) (J ⟨b,o+2,V⟩) (lv) (lv)
       obtain ⟨⟨t2,w2,r2a,b2,v2,z2,r2b,e2⟩,_⟩:=Qtk HT.out HV.out HK.out.size (by have:=HLN.out; omega) (k:Int) (J ⟨b,o+2,V⟩) (lv) (lv)
       obtain ⟨⟨t4,w4,r4a,b4,v4,z4,r4b,e4⟩,_⟩:=Qtm HT.out HV.out HK.out.size (by have:=HLN.out; omega) (k:Int) (J ⟨b,o+2,V⟩) (lv) (lv)
       obtain ⟨p1,q1,s1⟩:=HCW.out w1 (HK.out.trans b1)
       obtain ⟨p2,q2,s2⟩:=HCW.out w2 (HK.out.trans b2)
       obtain ⟨p4,q4,s4⟩:=HCW.out w4 (HK.out.trans b4)
       obtain ⟨P1,Q1,S1⟩:=HCW.out z1 (HK.out.trans e1.2.2)
       obtain ⟨P2,Q2,S2⟩:=HCW.out z2 (HK.out.trans e2.2.2)
       obtain ⟨P4,Q4,S4⟩:=HCW.out z4 (HK.out.trans e4.2.2)
       have R1a:=Qaa r1a
       have R1b:=Qaa r1b
       have R2a:=Qaa r2a
       have R2b:=Qaa r2b
       have R4a:=Qaa r4a
       have R4b:=Qaa r4b
       have E1:=Qaa e1
       have E2:=Qaa e2
       have E4:=Qaa e4
       clear r1a r1b r2a r2b r4a r4b e1 e2 e4 b1 b2 b4 HCW HSN
       have HSd:Hid (wr.drew.cell? ⟨b,o,V⟩=J (Y .u8 (k:Int))∧wr.drew.cell? ⟨b,o+1,V⟩=J (Y .u8 (lv:Int))):=⟨y0,y1⟩
       have HS1:=Qaa (And.intro p1 q1)
       have HSz1:=Qaa (And.intro P1 Q1)
       have HSw2:=Qaa (And.intro p2 q2)
       have HSz2:=Qaa (And.intro P2 Q2)
       have HSw4:=Qaa (And.intro p4 q4)
       have HSz4:=Qaa (And.intro P4 Q4)
       go_wp2_with fail
       go_region_held3 (fun w'=>w'.cell? ⟨b,o,V⟩=J (Y .u8 (k:Int))∧w'.cell? ⟨b,o+1,V⟩=J (Y .u8 (lv:Int)))
        (first | (with_reducible first | exact HSd.out | exact HS1.out | exact HSz1.out | exact HSw2.out | exact HSz2.out | exact HSw4.out | exact HSz4.out) | go_keep)
        (first
        | (refine Qb4 _ _ u5 (Z (J ⟨wr.heap.size,0,V⟩) 1 1) t1 (w':=w1) (by with_reducible exact R1a.out) (by rfl) (by rfl) ?_)
        | (refine Qb3 _ _ u6 (Z (J ⟨w1.heap.size,0,V⟩) 1 1) v1 (w':=z1) (by with_reducible exact R1b.out) (by rfl) (by rfl) ?_)
        | (refine Qb4 _ _ u5 (Z (J ⟨wr.heap.size,0,V⟩) 1 1) t2 (w':=w2) (by with_reducible exact R2a.out) (by rfl) (by rfl) ?_)
        | (refine Qb3 _ _ u6 (Z (J ⟨wr.heap.size+1,0,V⟩) 1 1) v2 (w':=z2) (by with_reducible exact R2b.out) (by rfl) (by rfl) ?_)
        | (refine Qb4 _ _ u5 (Z (J ⟨wr.heap.size+1,0,V⟩) 1 1) t4 (w':=w4) (by with_reducible exact R4a.out) (by rfl) (by rfl) ?_)
        | (refine Qb3 _ _ u6 (Z (J ⟨wr.heap.size,0,V⟩) 1 1) v4 (w':=z4) (by with_reducible exact R4b.out) (by rfl) (by rfl) ?_))
       all_goals go_wp2
       all_goals first
        | exact ⟨⟨rest.drop (2+lv),_,_,_,l++[(k,(rest.drop 2).take lv)],_,rfl,HND.out.trans (by omega),by omega,by omega,HLN2,HE2,by show BRd _ _ _; rw [List.eq_nil_of_length_eq_zero (HND.out.trans (by omega))]; exact Qbf _ _,by show World.ownsRow _ _ _ _ _ _ _; rw [HTY.out,I]; exact E1.out.1,by show World.ownsRow _ _ _ _ _ _ _; rw [I]; exact E1.out.2.1,HS2,fun x _ h=>absurd h (by omega),HK.out.trans E1.out.2.2⟩,by simp [sliceLen]; omega⟩
        | exact ⟨⟨rest.drop (2+lv),_,_,_,l++[(k,(rest.drop 2).take lv)],_,rfl,HND.out.trans (by omega),by omega,by omega,HLN2,HE2,by show BRd _ _ _; rw [List.eq_nil_of_length_eq_zero (HND.out.trans (by omega))]; exact Qbf _ _,by show World.ownsRow _ _ _ _ _ _ _; rw [HTY.out,I]; exact E2.out.1,by show World.ownsRow _ _ _ _ _ _ _; rw [I]; exact E2.out.2.1,HS2,fun x _ h=>absurd h (by omega),HK.out.trans E2.out.2.2⟩,by simp [sliceLen]; omega⟩
        | exact ⟨⟨rest.drop (2+lv),_,_,_,l++[(k,(rest.drop 2).take lv)],_,rfl,HND.out.trans (by omega),by omega,by omega,HLN2,HE2,by show BRd _ _ _; rw [List.eq_nil_of_length_eq_zero (HND.out.trans (by omega))]; exact Qbf _ _,by show World.ownsRow _ _ _ _ _ _ _; rw [HTY.out,I]; exact E4.out.1,by show World.ownsRow _ _ _ _ _ _ _; rw [I]; exact E4.out.2.1,HS2,fun x _ h=>absurd h (by omega),HK.out.trans E4.out.2.2⟩,by simp [sliceLen]; omega⟩
      ·have HS2:=Qaa (HSN.out (J ⟨b,o+2,V⟩) (cp - 2) (.inr rfl) (by omega))
       obtain ⟨t1,w1,r1a,b1,v1,z1,r1b,e1⟩:=Qzj HT.out HV.out HK.out.size (by have:=HLN.out; omega) (k:Int) (J ⟨b,o+2,V⟩) lv (cp - 2)
       obtain ⟨⟨t2,w2,r2a,b2,v2,z2,r2b,e2⟩,_⟩:=Qtk HT.out HV.out HK.out.size (by have:=HLN.out; omega) (k:Int) (J ⟨b,o+2,V⟩) lv (cp - 2)
       obtain ⟨⟨t4,w4,r4a,b4,v4,z4,r4b,e4⟩,_⟩:=Qtm HT.out HV.out HK.out.size (by have:=HLN.out; omega) (k:Int) (J ⟨b,o+2,V⟩) lv (cp - 2)
       obtain ⟨p1,q1,s1⟩:=HCW.out w1 (HK.out.trans b1)
       obtain ⟨p2,q2,s2⟩:=HCW.out w2 (HK.out.trans b2)
       obtain ⟨p4,q4,s4⟩:=HCW.out w4 (HK.out.trans b4)
       obtain ⟨P1,Q1,S1⟩:=HCW.out z1 (HK.out.trans e1.2.2)
       obtain ⟨P2,Q2,S2⟩:=HCW.out z2 (HK.out.trans e2.2.2)
       obtain ⟨P4,Q4,S4⟩:=HCW.out z4 (HK.out.trans e4.2.2)
       have R1a:=Qaa r1a
       have R1b:=Qaa r1b
       have R2a:=Qaa r2a
       have R2b:=Qaa r2b
       have R4a:=Qaa r4a
       have R4b:=Qaa r4b
       have E1:=Qaa e1
       have E2:=Qaa e2
       have E4:=Qaa e4
       clear r1a r1b r2a r2b r4a r4b e1 e2 e4 b1 b2 b4 HCW HSN
       have HSd:Hid (wr.drew.cell? ⟨b,o,V⟩=J (Y .u8 (k:Int))∧wr.drew.cell? ⟨b,o+1,V⟩=J (Y .u8 (lv:Int))):=⟨y0,y1⟩
       have HS1:=Qaa (And.intro p1 q1)
       have HSz1:=Qaa (And.intro P1 Q1)
       have HSw2:=Qaa (And.intro p2 q2)
       have HSz2:=Qaa (And.intro P2 Q2)
       have HSw4:=Qaa (And.intro p4 q4)
       have HSz4:=Qaa (And.intro P4 Q4)
       go_wp2_with fail
       go_region_held3 (fun w'=>w'.cell? ⟨b,o,V⟩=J (Y .u8 (k:Int))∧w'.cell? ⟨b,o+1,V⟩=J (Y .u8 (lv:Int)))
        (first | (with_reducible first | exact HSd.out | exact HS1.out | exact HSz1.out | exact HSw2.out | exact HSz2.out | exact HSw4.out | exact HSz4.out) | go_keep)
        (first
        | (refine Qb4 _ _ u5 (Z (J ⟨wr.heap.size,0,V⟩) 1 1) t1 (w':=w1) (by with_reducible exact R1a.out) (by rfl) (by rfl) ?_)
        | (refine Qb3 _ _ u6 (Z (J ⟨w1.heap.size,0,V⟩) 1 1) v1 (w':=z1) (by with_reducible exact R1b.out) (by rfl) (by rfl) ?_)
        | (refine Qb4 _ _ u5 (Z (J ⟨wr.heap.size,0,V⟩) 1 1) t2 (w':=w2) (by with_reducible exact R2a.out) (by rfl) (by rfl) ?_)
        | (refine Qb3 _ _ u6 (Z (J ⟨wr.heap.size+1,0,V⟩) 1 1) v2 (w':=z2) (by with_reducible exact R2b.out) (by rfl) (by rfl) ?_)
        | (refine Qb4 _ _ u5 (Z (J ⟨wr.heap.size+1,0,V⟩) 1 1) t4 (w':=w4) (by with_reducible exact R4a.out) (by rfl) (by rfl) ?_)
        | (refine Qb3 _ _ u6 (Z (J ⟨wr.heap.size,0,V⟩) 1 1) v4 (w':=z4) (by with_reducible exact R4b.out) (by rfl) (by rfl) ?_))
       all_goals go_wp2
       all_goals first
        | exact ⟨⟨rest.drop (2+lv),_,_,_,l++[(k,(rest.drop 2).take lv)],_,rfl,HND,by omega,by omega,HLN2,HE2,by show BRd _ _ _; have h9:=Qcq HB.out (2+lv) (n - (2+lv)) (by rw [HN.out]; omega); rw [List.take_of_length_le (by rw [HND.out]; exact Nat.le_refl _)] at h9; exact h9,by show World.ownsRow _ _ _ _ _ _ _; rw [HTY.out,I]; exact E1.out.1,by show World.ownsRow _ _ _ _ _ _ _; rw [I]; exact E1.out.2.1,HS2,fun x hx _=>by cases hx; exact HXX.out ⟨b,o,V⟩ rfl (by omega),HK.out.trans E1.out.2.2⟩,by simp [sliceLen]; omega⟩
        | exact ⟨⟨rest.drop (2+lv),_,_,_,l++[(k,(rest.drop 2).take lv)],_,rfl,HND,by omega,by omega,HLN2,HE2,by show BRd _ _ _; have h9:=Qcq HB.out (2+lv) (n - (2+lv)) (by rw [HN.out]; omega); rw [List.take_of_length_le (by rw [HND.out]; exact Nat.le_refl _)] at h9; exact h9,by show World.ownsRow _ _ _ _ _ _ _; rw [HTY.out,I]; exact E2.out.1,by show World.ownsRow _ _ _ _ _ _ _; rw [I]; exact E2.out.2.1,HS2,fun x hx _=>by cases hx; exact HXX.out ⟨b,o,V⟩ rfl (by omega),HK.out.trans E2.out.2.2⟩,by simp [sliceLen]; omega⟩
        | exact ⟨⟨rest.drop (2+lv),_,_,_,l++[(k,(rest.drop 2).take lv)],_,rfl,HND,by omega,by omega,HLN2,HE2,by show BRd _ _ _; have h9:=Qcq HB.out (2+lv) (n - (2+lv)) (by rw [HN.out]; omega); rw [List.take_of_length_le (by rw [HND.out]; exact Nat.le_refl _)] at h9; exact h9,by show World.ownsRow _ _ _ _ _ _ _; rw [HTY.out,I]; exact E4.out.1,by show World.ownsRow _ _ _ _ _ _ _; rw [I]; exact E4.out.2.1,HS2,fun x hx _=>by cases hx; exact HXX.out ⟨b,o,V⟩ rfl (by omega),HK.out.trans E4.out.2.2⟩,by simp [sliceLen]; omega⟩
end
