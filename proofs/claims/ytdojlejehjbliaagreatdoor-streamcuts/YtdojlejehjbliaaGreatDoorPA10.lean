import Derived.Test.YtdojlejehjbliaaGreatDoorPA9
import Derived.Lib.UnsafeStr
namespace Go.Proofs.YtdojlejehjbliaaGreatDoor
set_option maxHeartbeats 4000000
open _root_.Go.Value renaming int → I,bool → V,slice → Y,pointer → O
open _root_.Go.IntKind renaming i64 → J
open _root_.Go.Obj renaming cells → Z
open _root_.Option renaming none → U,some → D
open _root_.Go.Proofs.Tryz renaming prog → E
open _root_.Go.Ending renaming returned → R
open _root_.List renaming length_drop → T
open _root_.Nat renaming le_refl → L
open _root_.Go.World renaming block_lt_of_cell? → M
open _root_.Array renaming getElem?_eq_some_iff → N
open Go.RowKit
set_option maxRecDepth 100000
structure Qap (w0:World) where
 w:World
 h:Below w0.heap.size w0 w
theorem Qbh (w0:World):Nonempty (Qap w0):=⟨⟨w0,Below.refl _ _⟩⟩
theorem Qa5 {P:Program}{id:Nat}{Q:Exit→Act→World→Prop}{a:Act}{w:World}{l:List Oper} (hm:P.follows .mixedOrders=true) (hB:Region.lexB .any l.toArray=true)
  (h:wpQuiet P l.toArray (fun w'=>∃ x:Qap w,w'=x.w) (fun a'=>∀ w',(∃ x:Qap w,w'=x.w)→Q .normal a' w') l a):(Code.region id l.toArray true).wp P Q a w :=
 wp_region_quiet (C:=fun w'=>∃ x:Qap w,w'=x.w) hm hB ⟨⟨{ w with drawn:=w.drawn+1 },⟨rfl,rfl,rfl,L _,fun _ _=>rfl⟩⟩,rfl⟩ (by simpa using h)
theorem Qe1 {P:Program}{f:FuncId}{args:Array Value}{w0:World}{v:Value} (x:Qap w0) (h:Calls P f args x.w fun e w'=>e=R v∧Below x.w.heap.size x.w w'):Calls P f args x.w fun e w'=>e=R v∧∃ y:Qap w0,w'=y.w :=
 h.mono fun _ w' ⟨he,hb⟩=>⟨he,⟨w',x.h.trans ⟨hb.os,hb.tape,hb.output,hb.size,fun k hk=>hb.block k (Nat.lt_of_lt_of_le hk x.h.size)⟩⟩,rfl⟩
theorem Qfn {P:Program}{f:FuncId}{args:Array Value}{w0:World}{v:Value} (x:Qap w0) (h:Calls P f args x.w fun e w'=>e=R v∧w'=x.w):Calls P f args x.w fun e w'=>e=R v∧∃ y:Qap w0,w'=y.w :=
 h.mono fun _ _ ⟨he,hw⟩=>⟨he,x,hw⟩
theorem Qap.cell {w0:World}(x:Qap w0){a:Addr}{v:Value} (h:w0.cell? a=D v):x.w.cell? a=D v:=by
 rw [World.cell?_of_block (w:=w0) (x.h.block _ (M w0 _ h))]
 exact h
def asB (s:Nat)(c:Cp):Bool:=!(decide (s=0) || (c.four && (!decide ((s:Int)=c.as4) && !decide (s=23456))))
def asV (s:Nat)(c:Cp):Int:=if asB s c then (if c.four then c.as4 else (s:Int)) else 0
theorem Qk4 (s:Nat)(c:Cp)(w:World):Calls E 41 #[I J (s:Int),Qga c] w fun e w'=>e=R (.tuple #[I J (asV s c),V (asB s c)])∧Below w.heap.size w w':=by
 have HB:Hid (∀ o,Below w.heap.size w (w.alloc o)):=fun o=>Qhu w o
 unfold Qga
 by_cases h0:s=0
 ·have e1:asB s c=false:=by simp [asB,h0]
  have e2:asV s c=0:=by simp [asV,e1]
  rw [e1,e2]
  have hi:((s:Int) == 0)=true:=by simp [h0]
  clear e1 e2 h0
  obtain ⟨four,as4,gr,rs,tm,fam,fwd,ll,lt⟩:=c
  go_enter Tryz.func41,Tryz.ntmps41
  go_wp2
  go_ret2
  exact ⟨rfl,HB.out _⟩
 ·have hi:((s:Int) == 0)=false:=by simp; omega
  by_cases hf:c.four=true
  ·by_cases h4:(s:Int)=c.as4
   ·have e1:asB s c=true:=by simp [asB,h0,h4]
    have e2:asV s c=c.as4:=by simp [asV,e1,hf]
    rw [e1,e2]
    have hj:((s:Int) != c.as4)=false:=by simp [h4]
    clear e1 e2 h0 h4
    obtain ⟨four,as4,gr,rs,tm,fam,fwd,ll,lt⟩:=c
    simp only at hf hj
    subst hf
    go_enter Tryz.func41,Tryz.ntmps41
    go_wp2
    go_ret2
    exact ⟨rfl,HB.out _⟩
   ·have hj:((s:Int) != c.as4)=true:=by simpa using h4
    by_cases h5:s=23456
    ·have e1:asB s c=true:=by simp [asB,h5]
     have e2:asV s c=c.as4:=by simp [asV,e1,hf]
     rw [e1,e2]
     have hk:((s:Int) != 23456)=false:=by simp [h5]
     have H5:=Qaa h5
     clear e1 e2 h0 h4 h5
     obtain ⟨four,as4,gr,rs,tm,fam,fwd,ll,lt⟩:=c
     simp only at hf hj
     subst hf
     go_enter Tryz.func41,Tryz.ntmps41
     go_wp2
     go_ret2
     exact ⟨rfl,HB.out _⟩
    ·have e1:asB s c=false:=by simp [asB,h0,hf,h4,h5]
     have e2:asV s c=0:=by simp [asV,e1]
     rw [e1,e2]
     have hk:((s:Int) != 23456)=true:=by simp; omega
     have H5:=Qaa h5
     clear e1 e2 h0 h4 h5
     obtain ⟨four,as4,gr,rs,tm,fam,fwd,ll,lt⟩:=c
     simp only at hf hj
     subst hf
     go_enter Tryz.func41,Tryz.ntmps41
     go_wp2
     go_ret2
     exact ⟨rfl,HB.out _⟩
  ·have hf':c.four=false:=by simpa using hf
   have e1:asB s c=true:=by simp [asB,h0,hf']
   have e2:asV s c=(s:Int):=by simp [asV,e1,hf']
   rw [e1,e2]
   clear e1 e2 h0 hf
   obtain ⟨four,as4,gr,rs,tm,fam,fwd,ll,lt⟩:=c
   simp only at hf'
   subst hf'
   go_enter Tryz.func41,Tryz.ntmps41
   go_wp2
   go_ret2
   exact ⟨rfl,HB.out _⟩
def Qgu (bs:List Nat):(Nat×Nat×List Nat) ⊕ (Int×Nat×Nat×Cp) :=
 if bs.getD 0 0≠4 then .inl (2,1,[0,4])
 else if bs.getD 9 0≠bs.length - 10 then .inl (2,0,[])
 else match Qfc (bs.drop 10) with
  | none=>.inl (2,0,[])
  | some c=>if asB (Qcn ((bs.drop 1).take 2)) c then .inr (asV (Qcn ((bs.drop 1).take 2)) c,Qcn ((bs.drop 3).take 2),Qcn ((bs.drop 5).take 4),c) else .inl (2,2,[])
def Qce (a:Int)(h i:Nat)(c:Cp):Array Value:=#[I J a,I J (h:Int),I .u32 (i:Int),V c.four,I J c.as4,V c.gr,V c.rs,I J c.tm,V c.fam,V c.fwd,V c.ll,I J c.lt]
def zO:Array Value:=Qce 0 0 0 cp0
def OC (C:Array Value):Prop:=C.size=12∧C.all (·.oneCell')=true
theorem OC.made (a:Int)(h i:Nat)(c:Cp):OC (Qce a h i c):=⟨rfl,by simp [Qce,Value.oneCell']⟩
theorem OC.zero:OC zO:=OC.made _ _ _ _
theorem infoO:(E.info? 28).map (·.size)=D 12:=by kernel_rfl
section
variable {P:Program}{a:Act}{w w':World}{K:Act→World→Prop}{Q:Exit→Act→World→Prop}{dst:Option Tmp}{ty:TypeId}{pos:String}{after:Array Edge}{gd:Option (Nat×Bool)}
theorem Qfs (x y:Operand):Oper.wp P { dst:=dst,op:=.store 28 x y,type:=ty,pos:=pos,after:=after,guard:=gd } a w K Q=Qdl P { dst:=dst,op:=.store 28 x y,type:=ty,pos:=pos,after:=after,guard:=gd } a w K Q:=rfl
theorem keptO_alloc:Oper.wp P { dst:=dst,op:=.alloc 28,type:=ty,pos:=pos,after:=after,guard:=gd } a w K Q=Qdl P { dst:=dst,op:=.alloc 28,type:=ty,pos:=pos,after:=after,guard:=gd } a w K Q:=rfl
theorem Qg9 (xs:Array (Nat×Operand)):Oper.wp P { dst:=dst,op:=.build 28 xs,type:=ty,pos:=pos,after:=after,guard:=gd } a w K Q=Qdl P { dst:=dst,op:=.build 28 xs,type:=ty,pos:=pos,after:=after,guard:=gd } a w K Q:=rfl
theorem Qbx (x y:Operand)(p v:Value)(hx:a.eval x=p)(hy:a.eval y=v)(hr:(Instr.storeAt 28 p v).run P w=.ok () w')(h:K (a.put dst undef) w'):Qdl P { dst:=dst,op:=.store 28 x y,type:=ty,pos:=pos,after:=after,guard:=gd } a w K Q:=by
 unfold Qdl Oper.wp execOp
 simp only [hx,hy,Sem.run_bind,hr,Result.andThen_ok,Sem.run_pure]
 exact h
theorem Qc0 (v:Value)(hr:(Instr.alloc 28 true (.tuple #[])).run P w=.ok v w')(h:K (a.put dst v) w'):Qdl P { dst:=dst,op:=.alloc 28,type:=ty,pos:=pos,after:=after,guard:=gd } a w K Q:=by
 unfold Qdl Oper.wp execOp
 simp only [Sem.run_bind,hr,Result.andThen_ok,Sem.run_pure]
 exact h
theorem Qcc (v:Value)(hr:(Instr.build 28 #[]).run P w=.ok v w)(h:K (a.put dst v) w):Qdl P { dst:=dst,op:=.build 28 #[],type:=ty,pos:=pos,after:=after,guard:=gd } a w K Q:=by
 unfold Qdl Oper.wp execOp
 have e:((#[]:Array (Nat×Operand)).map fun (i,x)=>(i,a.eval x))=#[]:=by simp
 simp only [e,Sem.run_bind,hr,Result.andThen_ok,Sem.run_pure]
 exact h
end
theorem Qfi (w:World):(Instr.alloc 28 true (.tuple #[])).run E w=.ok (O (D ⟨w.heap.size,0,U⟩)) (w.alloc (Z zO 28)):=by kernel_rfl
theorem Qd8 (w:World):(Instr.build 28 #[]).run E w=.ok (.agg zO) w:=by kernel_rfl
theorem Qpk (a:Int)(h i:Nat)(c:Cp)(w:World):(Instr.build 28 #[(0,I J a),(1,I J (h:Int)),(2,I .u32 (i:Int)),(3,Qga c)]).run E w=.ok (.agg (Qce a h i c)) w:=by kernel_rfl
theorem Qlg {w:World}{g:Nat}{C C0:Array Value}{t:TypeId} (h:w.heap[g]?=D (Z C0 t (0,0))) (h0:C0.size=12) (hC:OC C):(Instr.storeAt 28 (O (D ⟨g,0,U⟩)) (.agg C)).run E w=.ok () (w.setCells g 0 C.toList) :=
 run_storeAt_mid (P:=E) w g 0 28 C (Qek h _ (by rw [hC.1,h0]; omega)) (by rw [infoO,hC.1]) hC.2
theorem Qvg (w:World)(n:Nat)(hn:n < 65536):BRd (w.alloc (Z #[I .u8 ((n:Int) / 256),I .u8 ((n:Int) % 256)] 5)) (D ⟨w.heap.size,0,U⟩) [n / 256,n % 256]:=by
 refine ⟨⟨by simp [maxLen],fun _=>⟨_,0,rfl,fun i hi=>?_⟩⟩,by simp; omega⟩
 match i,hi with
 | 0,_=>simp [go_sem]
 | 1,_=>simp [go_sem]
theorem Qy8 (w:World)(k:Nat)(hk:k < 256):BRd (w.alloc (Z #[I .u8 (k:Int)] 5)) (D ⟨w.heap.size,0,U⟩) [k]:=by
 refine ⟨⟨by simp [maxLen],fun _=>⟨_,0,rfl,fun i hi=>?_⟩⟩,by simp; omega⟩
 match i,hi with
 | 0,_=>simp [go_sem]
def Qp0 (w w':World)(e:Ending)(r:(Nat×Nat×List Nat) ⊕ (Int×Nat×Nat×Cp)):Prop:=match r with
 | .inl (k,s,d)=>∃ u,e=R (.tuple #[.agg zO,u])∧Qby w.heap.size w' u k s d
 | .inr (a,h,i,c)=>e=R (.tuple #[.agg (Qce a h i c),.agg #[I J 0,I J 0,Y U 0 0]])
theorem Jbw {W:World}{X:Nat} (h:W.heap[X]?=D (Z #[I J 0,I J 0,Y U 0 0] 38 (0,0))):Qc3 W X:=by
 have hr:=Qai h
 have hf:∀ j,W.frozen? ⟨X,j,U⟩=false:=fun j=>by simp [World.frozen?,h]
 exact ⟨(N.1 h).1,by have:=hr 0 _ rfl; simpa using this,by have:=hr 1 _ rfl; simpa using this,by have:=hr 2 _ rfl; simpa using this,hf 0,hf 1,hf 2⟩
structure OW (w W:World):Prop where
 bO:W.heap[w.heap.size]?=D (Z zO 28 (0,0))
 bN:W.heap[w.heap.size+1]?=D (Z #[I J 0,I J 0,Y U 0 0] 38 (0,0))
 bel:Below w.heap.size w W
theorem OW.later {w W W':World}(h:OW w W)(hb:Below W.heap.size W W'):OW w W' :=
 ⟨by rw [hb.block _ (N.1 h.bO).1]; exact h.bO,by rw [hb.block _ (N.1 h.bN).1]; exact h.bN,h.bel.trans (hb.mono h.bel.size)⟩
theorem OW.made (w:World):OW w ((w.alloc (Z zO 28)).alloc (Z #[I J 0,I J 0,Y U 0 0] 38)):=by
 refine ⟨?_,?_,((Below.refl _ _).alloc (L _) _).alloc (by simp) _⟩
 ·unfold World.alloc
  simp only
  rw [Array.getElem?_push_lt (by simp),Array.getElem_push_eq]
 ·unfold World.alloc
  simp only
  have:w.heap.size+1=(w.heap.push (Z zO 28)).size:=by simp
  rw [this,Array.getElem?_push_size]
structure Jbq (w W5:World) (k s:Nat) (d:List Nat) (a9:Option Addr) (n c9:Nat):Prop where
 rO:(W5.setCells (w.heap.size+1) 0 [I J (k:Int),I J (s:Int),Y a9 n c9]).rangeAt w.heap.size 0 zO.toList
 rN:(W5.setCells (w.heap.size+1) 0 [I J (k:Int),I J (s:Int),Y a9 n c9]).rangeAt (w.heap.size+1) 0 [I J (k:Int),I J (s:Int),Y a9 n c9]
 own:(W5.setCells (w.heap.size+1) 0 [I J (k:Int),I J (s:Int),Y a9 n c9]).ownsRow w.heap.size 5 1 (Y a9 n c9) n (Qal d)
 bel:Below w.heap.size w (W5.setCells (w.heap.size+1) 0 [I J (k:Int),I J (s:Int),Y a9 n c9])
theorem Qht (w W:World)(hW:OW w W)(k s:Nat)(a:Option Addr)(cap n:Nat)(d:List Nat)(hn:d.length=n)(hl:n≤50000)(h:BRd W a d) :
  Calls E 20 #[I J (k:Int),I J (s:Int),Y a n cap] W fun e w3=>∃ a9 c9 W5,e=R (.agg #[I J (k:Int),I J (s:Int),Y a9 n c9])∧Hid ((Instr.storeAt 28 (O (D ⟨w.heap.size,0,U⟩)) (.agg zO)).run E w3=.ok () W5)∧Hid (Qc3 W5 (w.heap.size+1))∧Hid (Jbq w W5 k s d a9 n c9):=by
 subst hn
 refine (Qfp k s a cap d W hl h).mono ?_
 rintro e w3 ⟨u,rfl,⟨a9,c9,rfl,ho⟩,hb⟩
 have h3:=hW.later hb
 have h5:(w3.setCells w.heap.size 0 zO.toList).heap[w.heap.size]?=D (Z zO 28 (0,0)):=Qex h3.bO rfl
 have h6:(w3.setCells w.heap.size 0 zO.toList).heap[w.heap.size+1]?=D (Z #[I J 0,I J 0,Y U 0 0] 38 (0,0)):=by rw [Qax (by omega)]; exact h3.bN
 have hk:Qae (fun x=>x=w.heap.size∨x=w.heap.size+1) w3 ((w3.setCells w.heap.size 0 zO.toList).setCells (w.heap.size+1) 0 [I J (k:Int),I J (s:Int),Y a9 d.length c9]):=((Qae.refl _ _).setCells _ 0 _ (.inl (.inl rfl))).setCells _ 0 _ (.inl (.inr rfl))
 have hsz:w.heap.size+1 < W.heap.size:=(N.1 hW.bN).1
 refine ⟨a9,c9,_,rfl,Qlg h3.bO rfl OC.zero,Jbw h6,⟨Qb7 (Qai h5) (by omega),?_,?_,?_⟩⟩
 ·exact Qb2 (C0:=#[I J 0,I J 0,Y U 0 0]) (C:=#[I J (k:Int),I J (s:Int),Y a9 d.length c9]) h6 (by simp)
 ·exact Qa0 (Qas ho hk (fun x hx=>by omega)) (by omega)
 ·exact h3.bel.trans (hk.below _ h3.bel.size (fun x e=>by omega))
section
attribute [local go_sem ↓] Qfs keptO_alloc Qg9
theorem Qmq (g o n c x:Nat)(w:World)(hn:10≤n)(h0:w.cell? ⟨g,o,U⟩=D (I .u8 (x:Int)))(hx:x≠4) :
  Calls E 21 #[Y (D ⟨g,o,U⟩) n c] w fun e w'=>Qp0 w w' e (.inl (2,1,[0,4]))∧Below w.heap.size w w':=by
 have zg:=M w _ h0
 simp only at zg
 have hne:((x:Int) != 4)=true:=by simp; omega
 have HW:Hid (OW w ((w.alloc (Z zO 28)).alloc (Z #[I J 0,I J 0,Y U 0 0] 38))):=OW.made w
 have c0:((w.alloc (Z zO 28)).alloc (Z #[I J 0,I J 0,Y U 0 0] 38)).cell? ⟨g,o,U⟩=D (I .u8 (x:Int)):=by rw [HW.out.bel.cell (p:=⟨g,o,U⟩) zg]; exact h0
 have hz2:((w.alloc (Z zO 28)).alloc (Z #[I J 0,I J 0,Y U 0 0] 38)).heap.size=w.heap.size+1+1:=by simp
 have hcells:(#[I .u8 (((4:Nat):Int) / 256),I .u8 (((4:Nat):Int) % 256)]:Array Value)=#[I .u8 0,I .u8 4]:=rfl
 have hb2:=Qvg ((w.alloc (Z zO 28)).alloc (Z #[I J 0,I J 0,Y U 0 0] 38)) 4 (by decide)
 have hw2:=HW.out.later ((Below.refl _ _).alloc (L _) (Z #[I .u8 0,I .u8 4] 5))
 rw [hcells,hz2] at hb2
 have KE:=Qaa (Qht w _ hw2 2 1 (D ⟨w.heap.size+1+1,0,U⟩) 2 2 [0,4] rfl (by decide) hb2)
 unfold Qp0 Qby
 simp only
 clear hb2 hw2
 go_enter Tryz.func21,Tryz.ntmps21
 go_wp2_with (first | (refine Qc0 _ (Qfi w) ?_) | (refine Qcc _ (Qd8 _) ?_))
 refine (Qrg 4 _ (by decide)).mono ?_
 rintro e w2 ⟨rfl,rfl⟩
 go_wp2_with fail
 refine KE.out.mono ?_
 rintro e w3 ⟨a9,c9,W5,rfl,HST,HX,HF⟩
 obtain ⟨_,r0,r1,r2,f0,f1,f2⟩:=HX.out
 go_wp2_with (refine Qbx _ _ (O (D ⟨w.heap.size,0,U⟩)) (.agg zO) (by rfl) (by rfl) HST.out ?_)
 refine bodyPost_ret (v:=.tuple #[.agg zO,.agg #[I J 2,I J 1,Y a9 2 c9]]) (Qar Tryz.results21 _ _ w.heap.size (w.heap.size+1) zO #[I J 2,I J 1,Y a9 2 c9] rfl rfl HF.out.rO HF.out.rN Tryz.underlying28 rfl infoO Tryz.underlying38 rfl infoN) rfl ⟨?_,HF.out.bel⟩
 exact ⟨_,rfl,a9,c9,rfl,HF.out.own⟩
theorem Qoa (g o n c:Nat)(bs:List Nat)(w:World)(hn:bs.length=n)(hn10:10≤n)(hl:n≤5000)(hcap:n≤c)(h:BRd w (D ⟨g,o,U⟩) bs)(h4:bs.getD 0 0=4)(hfit:bs.getD 9 0≠n - 10) :
  Calls E 21 #[Y (D ⟨g,o,U⟩) n c] w fun e w'=>Qp0 w w' e (.inl (2,0,[]))∧Below w.heap.size w w':=by
 obtain ⟨g',o',e9,hc⟩:=h.1.2 (by omega)
 cases e9
 have h0:w.cell? ⟨g,o,U⟩=D (I .u8 4):=by have:=hc 0 (by omega); rw [Nat.add_zero] at this; rw [this]; show D (Value.int .u8 ((bs.getD 0 0:Nat):Int))=_; rw [h4]; rfl
 have zg:=M w _ h0
 simp only at zg
 have HW:Hid (OW w ((w.alloc (Z zO 28)).alloc (Z #[I J 0,I J 0,Y U 0 0] 38))):=OW.made w
 have c0:((w.alloc (Z zO 28)).alloc (Z #[I J 0,I J 0,Y U 0 0] 38)).cell? ⟨g,o,U⟩=D (I .u8 4):=by rw [HW.out.bel.cell (p:=⟨g,o,U⟩) zg]; exact h0
 have hdl:(bs.drop 9).length=n - 9:=by rw [T]; omega
 have hc9:¬ c=9:=by omega
 have hcut:=Qcw (D ⟨g,o+9,U⟩) (c - 9) 1 (bs.drop 9) ((w.alloc (Z zO 28)).alloc (Z #[I J 0,I J 0,Y U 0 0] 38)) (by omega) (by omega) (by omega) (by omega) ((Qds h (by omega)).below HW.out.bel)
 rw [hdl] at hcut
 have hnum:Qcn ((bs.drop 9).take 1)=bs.getD 9 0:=by
  have:(bs.drop 9).take 1=[bs.getD 9 0]:=by
   apply List.ext_getElem?
   intro i
   match i with
   | 0=>rw [List.getElem?_take_of_lt (by omega),List.getElem?_drop,List.getElem?_eq_getElem (by omega)]; simp [List.getD_eq_getElem?_getD,List.getElem?_eq_getElem (show 9 < bs.length by omega)]
   | i+1=>simp; omega
  rw [this]; simp [Qcn]
 have KC:Hid (Calls E 39 #[Y (D ⟨g,o+9,U⟩) (n - 9) (c - 9),I J 1] ((w.alloc (Z zO 28)).alloc (Z #[I J 0,I J 0,Y U 0 0] 38)) fun e w'=>∃ v q aq cq ok,e=R (.tuple #[v,Y aq q cq,V ok])∧(ok=false∨0 < q)∧∃ m,w'=((w.alloc (Z zO 28)).alloc (Z #[I J 0,I J 0,Y U 0 0] 38)).drewN m):=by
  refine hcut.mono ?_
  rintro e w' ⟨hcu,hm⟩
  by_cases h2:(bs.drop 9).length < 1+Qcn ((bs.drop 9).take 1)
  ·rw [Qmi (by omega) h2] at hcu
   exact ⟨_,_,_,_,_,hcu,.inl rfl,hm⟩
  ·rw [Qgl (by omega) h2] at hcu
   obtain ⟨ap,cp,aq,cq,e1,_,_,_,_⟩:=hcu
   refine ⟨_,_,_,_,_,e1,.inr ?_,hm⟩
   rw [T,hdl,hnum]
   rw [hdl,hnum] at h2
   omega
 have KE:Hid (∀ m,Calls E 20 #[I J 2,I J 0,Y U 0 0] (((w.alloc (Z zO 28)).alloc (Z #[I J 0,I J 0,Y U 0 0] 38)).drewN m) fun e w3=>∃ a9 c9 W5,e=R (.agg #[I J 2,I J 0,Y a9 0 c9])∧Hid ((Instr.storeAt 28 (O (D ⟨w.heap.size,0,U⟩)) (.agg zO)).run E w3=.ok () W5)∧Hid (Qc3 W5 (w.heap.size+1))∧Hid (Jbq w W5 2 0 [] a9 0 c9)):=fun m=>Qht w (((w.alloc (Z zO 28)).alloc (Z #[I J 0,I J 0,Y U 0 0] 38)).drewN m) (HW.out.later (W':=((w.alloc (Z zO 28)).alloc (Z #[I J 0,I J 0,Y U 0 0] 38)).drewN m) ⟨rfl,rfl,rfl,L _,fun _ _=>rfl⟩) 2 0 U 0 0 [] rfl (by decide) (Qbf _ _)
 unfold Qp0 Qby
 simp only
 have hni:(9:Int)≤(n:Int):=by omega
 have hnc:(n:Int)≤(c:Int):=by omega
 have hn0:(0:Int) < (n:Int):=by omega
 clear hc h hdl hcut hnum hfit h4 hcap hl hn
 go_enter Tryz.func21,Tryz.ntmps21
 go_wp2_with (first | (refine Qc0 _ (Qfi w) ?_))
 with_reducible refine KC.out.mono ?_
 rintro e w1 ⟨v,q,aq,cq,ok,rfl,hq,m,rfl⟩
 rcases hq with rfl | hq
 ·go_wp2_with (first | (refine Qcc _ (Qd8 _) ?_))
  with_reducible refine (KE.out _).mono ?_
  rintro e w3 ⟨a9,c9,W5,rfl,HST,HX,HF⟩
  obtain ⟨_,r0,r1,r2,f0,f1,f2⟩:=HX.out
  go_wp2_with (refine Qbx _ _ (O (D ⟨w.heap.size,0,U⟩)) (.agg zO) (by rfl) (by rfl) HST.out ?_)
  refine bodyPost_ret (v:=.tuple #[.agg zO,.agg #[I J 2,I J 0,Y a9 0 c9]]) (Qar Tryz.results21 _ _ w.heap.size (w.heap.size+1) zO #[I J 2,I J 0,Y a9 0 c9] rfl rfl HF.out.rO HF.out.rN Tryz.underlying28 rfl infoO Tryz.underlying38 rfl infoN) rfl ⟨?_,HF.out.bel⟩
  exact ⟨_,rfl,a9,c9,rfl,HF.out.own⟩
 ·have hqi:(0:Int) < (q:Int):=by omega
  cases ok with
  | false =>
   go_wp2_with (first | (refine Qcc _ (Qd8 _) ?_))
   with_reducible refine (KE.out _).mono ?_
   rintro e w3 ⟨a9,c9,W5,rfl,HST,HX,HF⟩
   obtain ⟨_,r0,r1,r2,f0,f1,f2⟩:=HX.out
   go_wp2_with (refine Qbx _ _ (O (D ⟨w.heap.size,0,U⟩)) (.agg zO) (by rfl) (by rfl) HST.out ?_)
   refine bodyPost_ret (v:=.tuple #[.agg zO,.agg #[I J 2,I J 0,Y a9 0 c9]]) (Qar Tryz.results21 _ _ w.heap.size (w.heap.size+1) zO #[I J 2,I J 0,Y a9 0 c9] rfl rfl HF.out.rO HF.out.rN Tryz.underlying28 rfl infoO Tryz.underlying38 rfl infoN) rfl ⟨?_,HF.out.bel⟩
   exact ⟨_,rfl,a9,c9,rfl,HF.out.own⟩
  | true =>
   go_wp2_with (first | (refine Qcc _ (Qd8 _) ?_))
   with_reducible refine (KE.out _).mono ?_
   rintro e w3 ⟨a9,c9,W5,rfl,HST,HX,HF⟩
   obtain ⟨_,r0,r1,r2,f0,f1,f2⟩:=HX.out
   go_wp2_with (refine Qbx _ _ (O (D ⟨w.heap.size,0,U⟩)) (.agg zO) (by rfl) (by rfl) HST.out ?_)
   refine bodyPost_ret (v:=.tuple #[.agg zO,.agg #[I J 2,I J 0,Y a9 0 c9]]) (Qar Tryz.results21 _ _ w.heap.size (w.heap.size+1) zO #[I J 2,I J 0,Y a9 0 c9] rfl rfl HF.out.rO HF.out.rN Tryz.underlying28 rfl infoO Tryz.underlying38 rfl infoN) rfl ⟨?_,HF.out.bel⟩
   exact ⟨_,rfl,a9,c9,rfl,HF.out.own⟩
end
theorem Qqd {w:World}{g o c k l:Nat}{bs:List Nat} (h:BRd w (D ⟨g,o,U⟩) bs) (hk:k+l≤bs.length) (h1:1≤l) (h4:l≤4):Calls E 38 #[Y (D ⟨g,o+k,U⟩) l c] w fun e w'=>e=R (I J (Qcn ((bs.drop k).take l):Int))∧w'=w:=by
 have h2:=Qcq h k l hk
 have hl:((bs.drop k).take l).length=l:=by rw [List.length_take,T]; omega
 obtain ⟨b2,o2,e2,hc2⟩:=h2.1.2 (by omega)
 cases e2
 exact Qh8 g (o+k) l c ((bs.drop k).take l) w hl h4 h2.2 (fun i hi=>hc2 i (by omega))
theorem Ql1 {w:World}{g o c n:Nat}{bs:List Nat} (hn:bs.length=n) (hn10:10≤n) (hl:n≤5000) (hcap:n≤c) (h:BRd w (D ⟨g,o,U⟩) bs) (hfit:bs.getD 9 0=n - 10) :
  Calls E 39 #[Y (D ⟨g,o+9,U⟩) (n - 9) (c - 9),I J 1] w fun e w'=>∃ ap cp aq cq m,e=R (.tuple #[Y ap (n - 10) cp,Y aq 0 cq,V true])∧w'=w.drewN m∧Hid (BRd w ap (bs.drop 10))∧n - 10≤cp:=by
 have hdl:(bs.drop 9).length=n - 9:=by rw [T]; omega
 have hcut:=Qcw (D ⟨g,o+9,U⟩) (c - 9) 1 (bs.drop 9) w (by omega) (by omega) (by omega) (by omega) (Qds h (by omega))
 rw [hdl] at hcut
 have hnum:Qcn ((bs.drop 9).take 1)=bs.getD 9 0:=by
  have:(bs.drop 9).take 1=[bs.getD 9 0]:=by
   apply List.ext_getElem?
   intro i
   match i with
   | 0=>rw [List.getElem?_take_of_lt (by omega),List.getElem?_drop,List.getElem?_eq_getElem (by omega)]; simp [List.getD_eq_getElem?_getD,List.getElem?_eq_getElem (show 9 < bs.length by omega)]
   | i+1=>simp; omega
  rw [this]; simp [Qcn]
 refine hcut.mono ?_
 rintro e w' ⟨hcu,m,rfl⟩
 rw [Qgl (by omega) (by rw [hdl,hnum]; omega),hnum] at hcu
 obtain ⟨ap,cp,aq,cq,e1,h1,_,h3,_⟩:=hcu
 have hp:((bs.drop 9).drop 1).take (bs.getD 9 0)=bs.drop 10:=by
  rw [List.drop_drop,List.take_of_length_le (by rw [T]; omega)]
 have hq:((bs.drop 9).drop (1+bs.getD 9 0)).length=0:=by rw [T,hdl]; omega
 rw [hp] at e1 h1 h3
 rw [hq] at e1
 have hpl:(bs.drop 10).length=n - 10:=by rw [T]; omega
 rw [hpl] at e1 h1
 exact ⟨ap,cp,aq,cq,m,e1,rfl,h3,h1⟩
section
attribute [local go_sem ↓] Qfs keptO_alloc Qg9
theorem Qlu (g o n c:Nat)(bs:List Nat)(w:World)(hn:bs.length=n)(hn10:10≤n)(hl:n≤5000)(hcap:n≤c)(h:BRd w (D ⟨g,o,U⟩) bs)(h4:bs.getD 0 0=4)(hfit:bs.getD 9 0=n - 10)(hr:Qfc (bs.drop 10)=U) :
  Calls E 21 #[Y (D ⟨g,o,U⟩) n c] w fun e w'=>Qp0 w w' e (.inl (2,0,[]))∧Below w.heap.size w w':=by
 obtain ⟨g',o',e9,hc⟩:=h.1.2 (by omega)
 cases e9
 have h0:w.cell? ⟨g,o,U⟩=D (I .u8 4):=by have:=hc 0 (by omega); rw [Nat.add_zero] at this; rw [this]; show D (Value.int .u8 ((bs.getD 0 0:Nat):Int))=_; rw [h4]; rfl
 have zg:=M w _ h0
 simp only at zg
 have HW:Hid (OW w ((w.alloc (Z zO 28)).alloc (Z #[I J 0,I J 0,Y U 0 0] 38))):=OW.made w
 have c0:((w.alloc (Z zO 28)).alloc (Z #[I J 0,I J 0,Y U 0 0] 38)).cell? ⟨g,o,U⟩=D (I .u8 4):=by rw [HW.out.bel.cell (p:=⟨g,o,U⟩) zg]; exact h0
 have hc9:¬ c=9:=by omega
 have KC:=Qaa (Ql1 (w:=((w.alloc (Z zO 28)).alloc (Z #[I J 0,I J 0,Y U 0 0] 38))) hn hn10 hl hcap (h.below HW.out.bel) hfit)
 have hpl:(bs.drop 10).length=n - 10:=by rw [T]; omega
 have KD:Hid (∀ m ap cp,n - 10≤cp→BRd ((w.alloc (Z zO 28)).alloc (Z #[I J 0,I J 0,Y U 0 0] 38)) ap (bs.drop 10)→Calls E 40 #[Y ap (n - 10) cp] (((w.alloc (Z zO 28)).alloc (Z #[I J 0,I J 0,Y U 0 0] 38)).drewN m) fun e w'=>e=R (Qpy (Qfc (bs.drop 10)))∧Hid (Below w.heap.size w w')∧Hid (OW w w')):=fun m ap cp h1 h2=>by
  have:=Qll ap cp (bs.drop 10) (((w.alloc (Z zO 28)).alloc (Z #[I J 0,I J 0,Y U 0 0] 38)).drewN m) (by omega) (by omega) (h2.below ⟨rfl,rfl,rfl,L _,fun _ _=>rfl⟩)
  rw [hpl] at this
  refine this.mono ?_
  rintro e w' ⟨rfl,hb⟩
  have hw:=(HW.out.later (W':=((w.alloc (Z zO 28)).alloc (Z #[I J 0,I J 0,Y U 0 0] 38)).drewN m) ⟨rfl,rfl,rfl,L _,fun _ _=>rfl⟩).later hb
  exact ⟨rfl,hw.bel,hw⟩
 have KE:Hid (∀ X s,OW w X→Calls E 20 #[I J 2,I J ((s:Nat):Int),Y U 0 0] X fun e w3=>∃ a9 c9 W5,e=R (.agg #[I J 2,I J (s:Int),Y a9 0 c9])∧Hid ((Instr.storeAt 28 (O (D ⟨w.heap.size,0,U⟩)) (.agg zO)).run E w3=.ok () W5)∧Hid (Qc3 W5 (w.heap.size+1))∧Hid (Jbq w W5 2 s [] a9 0 c9)):=fun X s hX=>Qht w X hX 2 s U 0 0 [] rfl (by decide) (Qbf _ _)
 unfold Qp0 Qby
 simp only
 have hni:(9:Int)≤(n:Int):=by omega
 have hnc:(n:Int)≤(c:Int):=by omega
 have hn0:(0:Int) < (n:Int):=by omega
 simp only [hr,Qpy,Qga,cp0,Option.getD_none,Option.isSome_none] at KD
 clear hc h hfit h4 hcap hl hn hpl hr
 go_enter Tryz.func21,Tryz.ntmps21
 go_wp2_with (first | (refine Qc0 _ (Qfi w) ?_))
 with_reducible refine KC.out.mono ?_
 rintro e w1 ⟨ap,cp,aq,cq,m,rfl,rfl,HP,hcp⟩
 go_wp2_with fail
 with_reducible refine (KD.out m ap cp hcp HP.out).mono ?_
 rintro e w2 ⟨rfl,HB2,HW2⟩
 go_wp2_with (first | (refine Qcc _ (Qd8 _) ?_))
 refine (KE.out _ 0 (HW2.out.later ((Below.refl _ _).alloc (L _) _))).mono ?_
 rintro e w3 ⟨a9,c9,W5,rfl,HST,HX,HF⟩
 obtain ⟨_,r0,r1,r2,f0,f1,f2⟩:=HX.out
 go_wp2_with (refine Qbx _ _ (O (D ⟨w.heap.size,0,U⟩)) (.agg zO) (by rfl) (by rfl) HST.out ?_)
 refine bodyPost_ret (v:=.tuple #[.agg zO,.agg #[I J 2,I J 0,Y a9 0 c9]]) (Qar Tryz.results21 _ _ w.heap.size (w.heap.size+1) zO #[I J 2,I J 0,Y a9 0 c9] rfl rfl HF.out.rO HF.out.rN Tryz.underlying28 rfl infoO Tryz.underlying38 rfl infoN) rfl ⟨?_,HF.out.bel⟩
 exact ⟨_,rfl,a9,c9,rfl,HF.out.own⟩
theorem Qow (g o n c:Nat)(bs:List Nat)(w:World)(hn:bs.length=n)(hn10:10≤n)(hl:n≤5000)(hcap:n≤c)(h:BRd w (D ⟨g,o,U⟩) bs)(h4:bs.getD 0 0=4)(hfit:bs.getD 9 0=n - 10)(cc:Cp)(hr:Qfc (bs.drop 10)=D cc)(hs:asB (Qcn ((bs.drop 1).take 2)) cc=false) :
  Calls E 21 #[Y (D ⟨g,o,U⟩) n c] w fun e w'=>Qp0 w w' e (.inl (2,2,[]))∧Below w.heap.size w w':=by
 obtain ⟨g',o',e9,hc⟩:=h.1.2 (by omega)
 cases e9
 have h0:w.cell? ⟨g,o,U⟩=D (I .u8 4):=by have:=hc 0 (by omega); rw [Nat.add_zero] at this; rw [this]; show D (Value.int .u8 ((bs.getD 0 0:Nat):Int))=_; rw [h4]; rfl
 have zg:=M w _ h0
 simp only at zg
 have HW:Hid (OW w ((w.alloc (Z zO 28)).alloc (Z #[I J 0,I J 0,Y U 0 0] 38))):=OW.made w
 have c0:((w.alloc (Z zO 28)).alloc (Z #[I J 0,I J 0,Y U 0 0] 38)).cell? ⟨g,o,U⟩=D (I .u8 4):=by rw [HW.out.bel.cell (p:=⟨g,o,U⟩) zg]; exact h0
 have hc9:¬ c=9:=by omega
 have KC:=Qaa (Ql1 (w:=((w.alloc (Z zO 28)).alloc (Z #[I J 0,I J 0,Y U 0 0] 38))) hn hn10 hl hcap (h.below HW.out.bel) hfit)
 have hpl:(bs.drop 10).length=n - 10:=by rw [T]; omega
 have KD:Hid (∀ m ap cp,n - 10≤cp→BRd ((w.alloc (Z zO 28)).alloc (Z #[I J 0,I J 0,Y U 0 0] 38)) ap (bs.drop 10)→Calls E 40 #[Y ap (n - 10) cp] (((w.alloc (Z zO 28)).alloc (Z #[I J 0,I J 0,Y U 0 0] 38)).drewN m) fun e w'=>e=R (Qpy (Qfc (bs.drop 10)))∧Hid (Below w.heap.size w w')∧Hid (OW w w')):=fun m ap cp h1 h2=>by
  have:=Qll ap cp (bs.drop 10) (((w.alloc (Z zO 28)).alloc (Z #[I J 0,I J 0,Y U 0 0] 38)).drewN m) (by omega) (by omega) (h2.below ⟨rfl,rfl,rfl,L _,fun _ _=>rfl⟩)
  rw [hpl] at this
  refine this.mono ?_
  rintro e w' ⟨rfl,hb⟩
  have hw:=(HW.out.later (W':=((w.alloc (Z zO 28)).alloc (Z #[I J 0,I J 0,Y U 0 0] 38)).drewN m) ⟨rfl,rfl,rfl,L _,fun _ _=>rfl⟩).later hb
  exact ⟨rfl,hw.bel,hw⟩
 have KE:Hid (∀ X s,OW w X→Calls E 20 #[I J 2,I J ((s:Nat):Int),Y U 0 0] X fun e w3=>∃ a9 c9 W5,e=R (.agg #[I J 2,I J (s:Int),Y a9 0 c9])∧Hid ((Instr.storeAt 28 (O (D ⟨w.heap.size,0,U⟩)) (.agg zO)).run E w3=.ok () W5)∧Hid (Qc3 W5 (w.heap.size+1))∧Hid (Jbq w W5 2 s [] a9 0 c9)):=fun X s hX=>Qht w X hX 2 s U 0 0 [] rfl (by decide) (Qbf _ _)
 unfold Qp0 Qby
 simp only
 have hni:(9:Int)≤(n:Int):=by omega
 have hnc:(n:Int)≤(c:Int):=by omega
 have hn0:(0:Int) < (n:Int):=by omega
 have hv:asV (Qcn ((bs.drop 1).take 2)) cc=0:=by unfold asV; rw [hs]; rfl
 simp only [hr,Qpy,Qga,Option.getD_some,Option.isSome_some] at KD
 have HN:Hid (∀ X,Below w.heap.size w X→Calls E 38 #[Y (D ⟨g,o+1,U⟩) 2 (c - 1)] X fun e w'=>e=R (I J (Qcn ((bs.drop 1).take 2):Int))∧w'=X):=fun X hX=>Qqd (h.below hX) (by omega) (by omega) (by omega)
 have HA:Hid (∀ X,Calls E 41 #[I J (Qcn ((bs.drop 1).take 2):Int),.agg #[V cc.four,I J cc.as4,V cc.gr,V cc.rs,I J cc.tm,V cc.fam,V cc.fwd,V cc.ll,I J cc.lt]] X fun e w'=>e=R (.tuple #[I J 0,V false])∧Below X.heap.size X w'):=fun X=>by
  have:=Qk4 (Qcn ((bs.drop 1).take 2)) cc X
  rw [hv,hs] at this
  exact this
 clear hc h hfit h4 hcap hl hn hpl hr hs hv
 generalize Qcn ((bs.drop 1).take 2)=s at *
 obtain ⟨four,as4,gr,rs,tm,fam,fwd,ll,lt⟩:=cc
 simp only at KD HA
 have hc1:¬ c=1:=by omega
 go_enter Tryz.func21,Tryz.ntmps21
 go_wp2_with (first | (refine Qc0 _ (Qfi w) ?_))
 with_reducible refine KC.out.mono ?_
 rintro e w1 ⟨ap,cp,aq,cq,m,rfl,rfl,HP,hcp⟩
 go_wp2_with fail
 with_reducible refine (KD.out m ap cp hcp HP.out).mono ?_
 rintro e w2 ⟨rfl,HB2,HW2⟩
 have HBA:Hid (Below w.heap.size w (w2.alloc (Z #[V four,I J as4,V gr,V rs,I J tm,V fam,V fwd,V ll,I J lt] 26))):=HB2.out.alloc HB2.out.size _
 have HWA:Hid (OW w (w2.alloc (Z #[V four,I J as4,V gr,V rs,I J tm,V fam,V fwd,V ll,I J lt] 26))):=HW2.out.later ((Below.refl _ _).alloc (L _) _)
 have KN:Hid (∀ x:Qap (w2.alloc (Z #[V four,I J as4,V gr,V rs,I J tm,V fam,V fwd,V ll,I J lt] 26)),Calls E 38 #[Y (D ⟨g,o+1,U⟩) 2 (c - 1)] x.w fun e w'=>e=R (I J (s:Int))∧∃ y:Qap (w2.alloc (Z #[V four,I J as4,V gr,V rs,I J tm,V fam,V fwd,V ll,I J lt] 26)),w'=y.w):=fun x=>Qfn x (HN.out x.w (HBA.out.trans (x.h.mono HBA.out.size)))
 have KA:Hid (∀ x:Qap (w2.alloc (Z #[V four,I J as4,V gr,V rs,I J tm,V fam,V fwd,V ll,I J lt] 26)),Calls E 41 #[I J (s:Int),.agg #[V four,I J as4,V gr,V rs,I J tm,V fam,V fwd,V ll,I J lt]] x.w fun e w'=>e=R (.tuple #[I J 0,V false])∧∃ y:Qap (w2.alloc (Z #[V four,I J as4,V gr,V rs,I J tm,V fam,V fwd,V ll,I J lt] 26)),w'=y.w):=fun x=>Qe1 x (HA.out x.w)
 have y0:∀ x:Qap (w2.alloc (Z #[V four,I J as4,V gr,V rs,I J tm,V fam,V fwd,V ll,I J lt] 26)),x.w.cell? ⟨w2.heap.size,0,U⟩=D (V four):=fun x=>x.cell (by simp [go_sem])
 have y1:∀ x:Qap (w2.alloc (Z #[V four,I J as4,V gr,V rs,I J tm,V fam,V fwd,V ll,I J lt] 26)),x.w.cell? ⟨w2.heap.size,1,U⟩=D (I J as4):=fun x=>x.cell (by simp [go_sem])
 have y2:∀ x:Qap (w2.alloc (Z #[V four,I J as4,V gr,V rs,I J tm,V fam,V fwd,V ll,I J lt] 26)),x.w.cell? ⟨w2.heap.size,2,U⟩=D (V gr):=fun x=>x.cell (by simp [go_sem])
 have y3:∀ x:Qap (w2.alloc (Z #[V four,I J as4,V gr,V rs,I J tm,V fam,V fwd,V ll,I J lt] 26)),x.w.cell? ⟨w2.heap.size,3,U⟩=D (V rs):=fun x=>x.cell (by simp [go_sem])
 have y4:∀ x:Qap (w2.alloc (Z #[V four,I J as4,V gr,V rs,I J tm,V fam,V fwd,V ll,I J lt] 26)),x.w.cell? ⟨w2.heap.size,4,U⟩=D (I J tm):=fun x=>x.cell (by simp [go_sem])
 have y5:∀ x:Qap (w2.alloc (Z #[V four,I J as4,V gr,V rs,I J tm,V fam,V fwd,V ll,I J lt] 26)),x.w.cell? ⟨w2.heap.size,5,U⟩=D (V fam):=fun x=>x.cell (by simp [go_sem])
 have y6:∀ x:Qap (w2.alloc (Z #[V four,I J as4,V gr,V rs,I J tm,V fam,V fwd,V ll,I J lt] 26)),x.w.cell? ⟨w2.heap.size,6,U⟩=D (V fwd):=fun x=>x.cell (by simp [go_sem])
 have y7:∀ x:Qap (w2.alloc (Z #[V four,I J as4,V gr,V rs,I J tm,V fam,V fwd,V ll,I J lt] 26)),x.w.cell? ⟨w2.heap.size,7,U⟩=D (V ll):=fun x=>x.cell (by simp [go_sem])
 have y8:∀ x:Qap (w2.alloc (Z #[V four,I J as4,V gr,V rs,I J tm,V fam,V fwd,V ll,I J lt] 26)),x.w.cell? ⟨w2.heap.size,8,U⟩=D (I J lt):=fun x=>x.cell (by simp [go_sem])
 have hne:=Qbh (w2.alloc (Z #[V four,I J as4,V gr,V rs,I J tm,V fam,V fwd,V ll,I J lt] 26))
 go_wp2_with fail
 refine Qa5 (by kernel_rfl) (by kernel_rfl) ?_
 repeat (go_big_quiet_step (first | (go_at_call 38; with_reducible exact KN.out _) | (go_at_call 41; with_reducible exact KA.out _)))
 refine wpQuiet_nil ?_
 rintro _ ⟨xq,rfl⟩
 have HWX:=Qaa (HWA.out.later xq.h)
 go_wp2_with (first | (refine Qcc _ (Qd8 _) ?_))
 refine (KE.out _ 2 HWX.out).mono ?_
 rintro e w3 ⟨a9,c9,W5,rfl,HST,HX,HF⟩
 obtain ⟨_,r0,r1,r2,f0,f1,f2⟩:=HX.out
 go_wp2_with (refine Qbx _ _ (O (D ⟨w.heap.size,0,U⟩)) (.agg zO) (by rfl) (by rfl) HST.out ?_)
 refine bodyPost_ret (v:=.tuple #[.agg zO,.agg #[I J 2,I J 2,Y a9 0 c9]]) (Qar Tryz.results21 _ _ w.heap.size (w.heap.size+1) zO #[I J 2,I J 2,Y a9 0 c9] rfl rfl HF.out.rO HF.out.rN Tryz.underlying28 rfl infoO Tryz.underlying38 rfl infoN) rfl ⟨?_,HF.out.bel⟩
 exact ⟨_,rfl,a9,c9,rfl,HF.out.own⟩
end
