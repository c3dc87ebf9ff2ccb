import Derived.Test.YtdojlejehjbliaaGreatDoorPA5
namespace Go.Proofs.YtdojlejehjbliaaGreatDoor
set_option maxHeartbeats 4000000
open _root_.Go.Value renaming slice → I,int → Y,pointer → E,bool → L
open _root_.Option renaming some → J,none → V
open _root_.Go.IntKind renaming i64 → Z
open _root_.Go.Obj renaming cells → U
open _root_.Go.Proofs.Tryz renaming prog → K
open _root_.Array renaming getElem?_eq_some_iff → D
open _root_.Go.World renaming block_lt_of_cell? → R
open _root_.Nat renaming le_refl → T
open Go.RowKit
set_option maxRecDepth 100000
structure Qc6 (w:World) (S:Nat) (v:Value) (k s:Int) (d:Value):Prop where
 c0:w.cell? ⟨S,0,V⟩=J v
 c1:w.cell? ⟨S,1,V⟩=J (Y Z k)
 c2:w.cell? ⟨S,2,V⟩=J (Y Z s)
 c3:w.cell? ⟨S,3,V⟩=J d
 fz:∀ o,o < 4→w.frozen? ⟨S,o,V⟩=false
theorem Qc6.of_block {w w':World}{S:Nat}{v d:Value}{k s:Int} (h:Qc6 w S v k s d) (e:w'.heap[S]?=w.heap[S]?):Qc6 w' S v k s d :=
 ⟨by rw [World.cell?_of_block (w:=w) (by exact e)]; exact h.c0,by rw [World.cell?_of_block (w:=w) (by exact e)]; exact h.c1,by rw [World.cell?_of_block (w:=w) (by exact e)]; exact h.c2,by rw [World.cell?_of_block (w:=w) (by exact e)]; exact h.c3,
  fun o ho=>by rw [World.frozen?_of_block (w:=w) (by exact e)]; exact h.fz o ho⟩
theorem Qqy (w:World):Calls K 12 #[] w fun e w'=>e=.returned (E (J ⟨w.heap.size,0,V⟩))∧w'=w.alloc (U #[I V 0 0,Y Z 0,Y Z 0,I V 0 0] 72):=by
 go_enter Tryz.func12,Tryz.ntmps12
 go_wp2
 go_ret
 exact ⟨rfl,rfl⟩
theorem Qtc (w:World):Qc6 (w.alloc (U #[I V 0 0,Y Z 0,Y Z 0,I V 0 0] 72)) w.heap.size (I V 0 0) 0 0 (I V 0 0) :=
 ⟨by simp [go_sem],by simp [go_sem],by simp [go_sem],by simp [go_sem],fun o ho=>by simp [go_sem]⟩
theorem Qp5 (w:World)(S:Nat)(a:Option Addr)(n c:Nat)(k s:Int)(d:Value)(h:Qc6 w S (I a n c) k s d):Calls K 16 #[E (J ⟨S,0,V⟩)] w fun e w'=>e=.returned (Y Z (n:Int))∧w'=w:=by
 have c0:=h.c0
 clear h
 go_enter Tryz.func16,Tryz.ntmps16
 go_wp2
 go_ret
 exact ⟨rfl,rfl⟩
theorem Qfy {w:World}{B:Nat}{v:Value}{ys:List Nat} (zs:List Nat) (a:Option Addr) (c:Nat) (ho:w.ownsRow B 5 1 v ys.length (Qal ys)) (hB:B≤w.heap.size) (hl:ys.length+zs.length≤500000) (h:BRd w a zs) :
  ∃ v' w',(Builtin.append_ #[22,22] 22 #[v,I a zs.length c]).run K w=.ok v' w'∧w'.ownsRow B 5 1 v' (ys++zs).length (Qal (ys++zs))∧w.grownBy w' v.ownBlock∧(v'.ownBlock=v.ownBlock∨v'.ownBlock=J w.heap.size):=by
 cases a with
 | none =>
  have hz:zs=[]:=by
   cases zs with
   | nil=>rfl
   | cons z r=>obtain ⟨b,off,e,_⟩:=h.1.2 (by simp); cases e
  subst hz
  have hg:w.grownBy w v.ownBlock:=⟨rfl,rfl,rfl,T _,fun _ _ _=>rfl⟩
  have ho2:=ho
  rcases ho.2 with ⟨e,h0⟩ | ⟨g,cap,cur,e,_,_,hc,_⟩
  ·subst e
   exact ⟨_,w,Qmz elemU8 w c,by rw [List.append_nil]; exact ho2,hg,.inl rfl⟩
  ·subst e
   exact ⟨_,w,append_nil elemU8 w _ _ cap c hc,by rw [List.append_nil]; exact ho2,hg,.inl rfl⟩
 | some ad =>
  have hc:∀ j x,(Qal zs)[j]?=J x→w.cell? (ad.add j)=J x:=fun j x hx=>by
   have hj:j < zs.length:=by have:=(List.getElem?_eq_some_iff.1 hx).1; rwa [Qbd] at this
   obtain ⟨b,off,e,h5⟩:=h.1.2 (by omega)
   cases e
   rw [Addr.add_mid,h5 j hj,← hx]
   simp [Qal,hj]
  obtain ⟨v',w',hr,h2,_,h4,h5⟩:=Qe7 elemU8 ho hB ad zs.length c (Qal zs) (by rw [Qbd]; omega) hc (Qfk _) (by omega)
  exact ⟨v',w',hr,by rw [Qfo,List.length_append]; exact h2,h4,h5⟩
theorem Qvd {F:Nat→Prop}{w w':World}{B e size n:Nat}{v:Value}{xs:List Value} (h:w.ownsRow B e size v n xs) (hk:Qae F w w') (hn:∀ b,v.ownBlock=J b→¬ F b):w'.ownsRow B e size v n xs:=by
 refine ⟨h.1,?_⟩
 rcases h.2 with hh | ⟨g,cap,cur,e1,hg,hc,rest⟩
 ·exact .inl hh
 ·refine .inr ⟨g,cap,cur,e1,hg,?_,rest⟩
  rw [hk.block g (D.1 hc).1 (hn g (by rw [e1]; rfl))]
  exact hc
theorem Qc6.wait {w:World}{S:Nat}{v d:Value}{k s:Int} (h:Qc6 w S v k s d) (u:Value):Qc6 (w.setCell ⟨S,0,V⟩ u) S u k s d:=by
 have put:∀ x,w.cell? ⟨S,0,V⟩=J x→(w.setCell ⟨S,0,V⟩ u).cell? ⟨S,0,V⟩=J u:=fun x hx=>by
  have:=World.cell?_setCells_in S [u] 0 w (fun q hq=>by
   have:q=0:=by simp at hq; omega
   subst this
   rw [Nat.add_zero,hx]; rfl) 0 (by simp)
  simpa [World.setCells] using this
 have off:∀ p,p≠0→(w.setCell ⟨S,0,V⟩ u).cell? ⟨S,p,V⟩=w.cell? ⟨S,p,V⟩:=fun p hp=>by
  have:=World.cell?_setCells_out S [u] 0 w ⟨S,p,V⟩ (fun _ _=>by simp; omega)
  simpa [World.setCells] using this
 exact ⟨put _ h.c0,by rw [off 1 (by omega)]; exact h.c1,by rw [off 2 (by omega)]; exact h.c2,by rw [off 3 (by omega)]; exact h.c3,fun o ho=>by simp; exact h.fz o ho⟩
theorem Qv2 (w:World)(S B:Nat)(v:Value)(ys zs:List Nat)(a:Option Addr)(c:Nat)(k s:Int)(d:Value)(h:Qc6 w S v k s d)(ho:w.ownsRow B 5 1 v ys.length (Qal ys))(hB:B≤w.heap.size)(hS:v.ownBlock≠J S)(hl:ys.length+zs.length≤100000)(hz:BRd w a zs) :
  Calls K 13 #[E (J ⟨S,0,V⟩),I a zs.length c] w fun e w'=>e=.returned (.tuple #[])∧∃ v',Qc6 w' S v' k s d∧w'.ownsRow B 5 1 v' (ys++zs).length (Qal (ys++zs))∧v'.ownBlock≠J S∧Qae (fun b=>b=S∨v.ownBlock=J b) w w':=by
 obtain ⟨v',w1,hr,ho1,hg,hnew⟩:=Qfy zs a c ho hB (by omega) hz
 have hSz:S < w.heap.size:=R w _ h.c0
 have hs1:Qc6 w1 S v k s d:=h.of_block (hg.block S hSz (Ne.symm hS))
 have hne:v'.ownBlock≠J S:=by
  rcases hnew with e | e
  ·rw [e]; exact hS
  ·rw [e]; intro e9; simp at e9; omega
 obtain ⟨va,vc,rfl⟩:=Qbs ho
 obtain ⟨va1,vc1,rfl⟩:=Qbs ho1
 have c0:=h.c0
 have d0:=hs1.c0
 have f0:=hs1.fz 0 (by omega)
 have hz1:S < w1.heap.size:=R w1 _ d0
 have HK:Hid (Qae (fun b=>b=S∨(Value.slice va ys.length vc).ownBlock=J b) w (w1.setCell ⟨S,0,V⟩ (I va1 (ys++zs).length vc1))):=((Qae.refl _ w).grown hg fun b hb=>.inl (.inr hb)).setCell _ _ _ (.inl (.inl rfl))
 have HO:Hid ((w1.setCell ⟨S,0,V⟩ (I va1 (ys++zs).length vc1)).ownsRow B 5 1 (I va1 (ys++zs).length vc1) (ys++zs).length (Qal (ys++zs))):=Qvd ho1 ((Qae.refl (fun b=>b=S) w1).setCell S 0 _ (.inl rfl)) fun b hb e=>by subst e; exact hne hb
 have HS:=Qaa (hs1.wait (I va1 (ys++zs).length vc1))
 have HR:=Qaa hr
 have HNe:=Qaa hne
 have dl:decide ((1048576:Int) - (ys.length:Int) < (zs.length:Int))=false:=decide_eq_false (by omega)
 have hw1:IntKind.i64.wrap ((1048576:Int) - (ys.length:Int))=(1048576:Int) - (ys.length:Int):=by rw [IntKind.wrap_i64]; omega
 clear h ho hs1 hg hnew ho1 hr hne hz hS
 generalize (ys++zs).length=nn at *
 generalize Qal (ys++zs)=bb at *
 generalize zs.length=nz at *
 generalize ys.length=ny at *
 go_enter Tryz.func13,Tryz.ntmps13
 go_wp2_with ((with_reducible refine Qdw _ _ 22 _ (I a nz c) _ ?_ ?_ HR.out ?_); (· rfl); (· rfl))
 exact bodyPost_end (results_none rfl _ _ _) rfl ⟨rfl,_,HS.out,HO.out,HNe.out,HK.out⟩
theorem Qff {fn:Func}{p q r:Tmp}{tM tN:TypeId}{dM dN:TypeDesc} (h:fn.results=#[.cell p tM,.cell q tN,.tmp r]) (tmps:Array Value) (w:World) (gM gN:Nat) (CM CN:Array Value) (z:Value)
  (hp:tmps[p]?=J (E (J ⟨gM,0,V⟩))) (hq:tmps[q]?=J (E (J ⟨gN,0,V⟩))) (hr:tmps[r]?=J z) (rM:w.rangeAt gM 0 CM.toList) (rN:w.rangeAt gN 0 CN.toList)
  (uM:K.underlying tM=J dM) (sM:dM.isRow=true) (iM:(K.info? tM).map (·.size)=J CM.size) (uN:K.underlying tN=J dN) (sN:dN.isRow=true) (iN:(K.info? tN).map (·.size)=J CN.size) :
  (results fn tmps).run K w=.ok (.tuple #[.agg CM,.agg CN,z]) w:=by
 have l1:=run_loadVar_mid (P:=K) w gM 0 tM CM.toList dM rM uM sM (by simpa using iM)
 have l2:=run_loadVar_mid (P:=K) w gN 0 tN CN.toList dN rN uN sN (by simpa using iN)
 have e1:tmps.getD p undef=E (J ⟨gM,0,V⟩):=by rw [Array.getD_eq_getD_getElem?,hp]; rfl
 have e2:tmps.getD q undef=E (J ⟨gN,0,V⟩):=by rw [Array.getD_eq_getD_getElem?,hq]; rfl
 have e3:tmps.getD r undef=z:=by rw [Array.getD_eq_getD_getElem?,hr]; rfl
 unfold results
 rw [h]
 simp only [Array.mapM_eq_mapM_toList,List.mapM_cons,List.mapM_nil,e1,e2,e3,asAddr,Sem.run_bind,Sem.run_pure]
 simp [Sem.run_bind,l1,l2]
theorem Qc6.below {w w':World}{S:Nat}{v d:Value}{k s:Int} (h:Qc6 w S v k s d) (hb:Below w.heap.size w w'):Qc6 w' S v k s d:=h.of_block (hb.block _ (R w _ h.c0))
theorem Qq0 {W:World}{g:Nat}{c s v:Value} (h:W.heap[g]?=J (U #[c,s,v] 38 (0,0))):(W.cell? ⟨g,0,V⟩=J c∧W.cell? ⟨g,1,V⟩=J s∧W.cell? ⟨g,2,V⟩=J v)∧(W.frozen? ⟨g,0,V⟩=false∧W.frozen? ⟨g,1,V⟩=false∧W.frozen? ⟨g,2,V⟩=false):=by
 refine ⟨⟨Qai h 0 _ rfl,Qai h 1 _ rfl,Qai h 2 _ rfl⟩,?_⟩
 simp [World.frozen?,h]
theorem Qjm {W:World}{gM gN:Nat}{C C0:Array Value}{c0 s0 v0:Value} (bM:W.heap[gM]?=J (U C0 40 (0,0))) (h0:C0.size=25) (bN:W.heap[gN]?=J (U #[c0,s0,v0] 38 (0,0))) (hne:gN≠gM) (hC:MC C) (c s v:Value) :
  ∃ W2,(Instr.storeAt 40 (E (J ⟨gM,0,V⟩)) (.agg C)).run K W=.ok () W2∧W2.heap[gN]?=J (U #[c0,s0,v0] 38 (0,0))∧(((W2.setCell ⟨gN,0,V⟩ c).setCell ⟨gN,1,V⟩ s).setCell ⟨gN,2,V⟩ v).rangeAt gM 0 C.toList∧(((W2.setCell ⟨gN,0,V⟩ c).setCell ⟨gN,1,V⟩ s).setCell ⟨gN,2,V⟩ v).rangeAt gN 0 (#[c,s,v]:Array Value).toList∧Qae (fun x=>x=gM∨x=gN) W (((W2.setCell ⟨gN,0,V⟩ c).setCell ⟨gN,1,V⟩ s).setCell ⟨gN,2,V⟩ v):=by
 have hN2:(W.setCells gM 0 C.toList).heap[gN]?=J (U #[c0,s0,v0] 38 (0,0)):=by rw [Qax hne]; exact bN
 refine ⟨W.setCells gM 0 C.toList,Qd7 bM h0 hC,hN2,?_,?_,?_⟩
 ·exact Qb7 (g:=gM) (g':=gN) (vs:=[c,s,v]) (Qb2 bM (by rw [hC.1,h0]; exact T _)) (Ne.symm hne)
 ·exact Qb2 (C:=#[c,s,v]) hN2 (by simp)
 ·exact ((Qae.refl _ W).setCells gM 0 C.toList (.inl (.inl rfl))).setCells gN 0 [c,s,v] (.inl (.inr rfl))
section
variable {ops:Array Oper}{Q:Exit→Act→World→Prop}{id:Nat}
theorem Qkj (b:Act)(w1:World)(gM gN:Nat)(tM:TypeId)(C0 C N0 N:Array Value)(sx sy:Nat)(ox oy:Op)
  (o0:opk ops 0 (J sx) (ox))
  (o1:opk ops 1 (J sy) (oy))
  (o2:opk ops 2 V (.store tM (.tmp 2) (.tmp sx)))
  (o3:opk ops 3 V (.store 38 (.tmp 3) (.tmp sy)))
  (o4:opk ops 4 (J 4) (.assign (.const (L true))))
  (hsz:ops.size=5) (hns:Region.noSelect ops=true)
  (f0:Region.free .any ops #[false,false,false,false,false] 0=true) (c0:(Region.ready .any ops #[false,false,false,false,false]).contains 0=true)
  (f1:Region.free .any ops #[true,false,false,false,false] 1=true) (c1:(Region.ready .any ops #[true,false,false,false,false]).contains 1=true)
  (r2:Region.ready .any ops #[true,true,false,false,false]=[2]) (r3:Region.ready .any ops #[true,true,true,false,false]=[3]) (r4:Region.ready .any ops #[true,true,true,true,false]=[4]) (rE:Region.ready .any ops #[true,true,true,true,true]=[])
  (hx:∀ ty po af W,Qae (fun k=>k=gM∨k=gN) w1 W→(execOp b.eval { dst:=J sx,op:=ox,type:=ty,pos:=po,after:=af,guard:=V }).run K W=.ok (.value (.agg C)) W)
  (hy:∀ ty po af W,Qae (fun k=>k=gM∨k=gN) w1 W→(execOp (b.put (J sx) (.agg C)).eval { dst:=J sy,op:=oy,type:=ty,pos:=po,after:=af,guard:=V }).run K W=.ok (.value (.agg N)) W)
  (h2:b.tmps[2]?=J (E (J ⟨gM,0,V⟩))) (h3:b.tmps[3]?=J (E (J ⟨gN,0,V⟩))) (hsx:sx < b.tmps.size) (hsy:sy < b.tmps.size) (n2:sx≠2∧sy≠2∧sx≠3∧sy≠3∧sx≠sy)
  (bM:w1.heap[gM]?=J (U C0 tM (0,0))) (bN:w1.heap[gN]?=J (U N0 38 (0,0))) (hne:gN≠gM) (zM:C.size=C0.size) (zN:N.size=N0.size) (iM:(K.info? tM).map (·.size)=J C.size) (iN:(K.info? 38).map (·.size)=J N.size)
  (aM:C.all (·.oneCell')=true) (aN:N.all (·.oneCell')=true)
  (fin:Q .normal (((b.put (J sx) (.agg C)).put (J sy) (.agg N)).put (J 4) (L true)) ((({ w1 with drawn:=w1.drawn+1 } : World).setCells gM 0 C.toList).setCells gN 0 N.toList)) :
  (Code.region id ops true).wp K Q b w1:=by
 obtain ⟨t0,p0,e0,h0⟩:=o0
 obtain ⟨t1,p1,e1,h1⟩:=o1
 obtain ⟨t2,p2,e2,k2⟩:=o2
 obtain ⟨t3,p3,e3,k3⟩:=o3
 obtain ⟨t4,p4,e4,k4⟩:=o4
 obtain ⟨x2,y2,x3,y3,xy⟩:=n2
 refine wp_region_noPanic ?_
 refine wp_region_held (S:=fun W=>Qae (fun k=>k=gM∨k=gN) w1 W) (by kernel_rfl) ?_
 rw [hsz]
 have hK:Qae (fun k=>k=gM∨k=gN) w1 { w1 with drawn:=w1.drawn+1 }:=⟨rfl,rfl,rfl,T _,fun _ _ _=>rfl⟩
 show wpAnyH K .any ops (NoPanic Q) _ (4+1) #[false,false,false,false,false] b _
 refine Qao h0 rfl rfl hns f0 c0 (fun _ _ _ _ h=>h) (fun W hW=>hx t0 p0 e0 W hW) hK ?_
 show wpAnyH K .any ops (NoPanic Q) _ (3+1) #[true,false,false,false,false] _ _
 refine Qao h1 rfl rfl hns f1 c1 (fun _ _ _ _ h=>h) (fun W hW=>hy t1 p1 e1 W hW) hK ?_
 show wpAnyH K .any ops (NoPanic Q) _ (2+1) #[true,true,false,false,false] _ _
 have v2:((b.put (J sx) (.agg C)).put (J sy) (.agg N)).tmps[2]?=J (E (J ⟨gM,0,V⟩)):=by rw [Qab _ y2,Qab _ x2]; exact h2
 have v3:((b.put (J sx) (.agg C)).put (J sy) (.agg N)).tmps[3]?=J (E (J ⟨gN,0,V⟩)):=by rw [Qab _ y3,Qab _ x3]; exact h3
 have vx:((b.put (J sx) (.agg C)).put (J sy) (.agg N)).tmps[sx]?=J (.agg C):=by rw [Qab _ (Ne.symm xy)]; exact Qak _ hsx
 have vy:((b.put (J sx) (.agg C)).put (J sy) (.agg N)).tmps[sy]?=J (.agg N):=Qak _ (by simp [Act.put]; exact hsy)
 refine wpAnyH_all r2 (by simp) fun i hi=>?_
 obtain rfl:i=2:=by simpa using hi
 refine Qbo k2 rfl ?_
 have bM':({ w1 with drawn:=w1.drawn+1 } : World).heap[gM]?=J (U C0 tM (0,0)):=bM
 have bN':(({ w1 with drawn:=w1.drawn+1 } : World).setCells gM 0 C.toList).heap[gN]?=J (U N0 38 (0,0)):=by rw [Qax hne]; exact bN
 unfold Oper.wp execOp
 simp only [Qaf v2,Qaf vx,Sem.run_bind,run_storeAt_mid _ gM 0 tM C (Qek bM' _ (by omega)) iM aM,Result.andThen_ok,Sem.run_pure]
 refine ⟨hK.setCells gM 0 _ (.inl (.inl rfl)),?_⟩
 show wpAnyH K .any ops (NoPanic Q) _ (1+1) #[true,true,true,false,false] _ _
 refine wpAnyH_all r3 (by simp) fun i hi=>?_
 obtain rfl:i=3:=by simpa using hi
 refine Qbo k3 rfl ?_
 unfold Oper.wp execOp
 have g1:(((b.put (J sx) (.agg C)).put (J sy) (.agg N)).put V undef).eval (.tmp 3)=E (J ⟨gN,0,V⟩):=Qaf v3
 have g2:(((b.put (J sx) (.agg C)).put (J sy) (.agg N)).put V undef).eval (.tmp sy)=.agg N:=Qaf vy
 simp only [g1,g2,Sem.run_bind,run_storeAt_mid _ gN 0 38 N (Qek bN' _ (by omega)) iN aN,Result.andThen_ok,Sem.run_pure]
 refine ⟨(hK.setCells gM 0 _ (.inl (.inl rfl))).setCells gN 0 _ (.inl (.inr rfl)),?_⟩
 show wpAnyH K .any ops (NoPanic Q) _ (0+1) #[true,true,true,true,false] _ _
 refine wpAnyH_all r4 (by simp) fun i hi=>?_
 obtain rfl:i=4:=by simpa using hi
 refine Qbo k4 rfl ?_
 unfold Oper.wp execOp
 simp only [Sem.run_pure]
 refine ⟨(hK.setCells gM 0 _ (.inl (.inl rfl))).setCells gN 0 _ (.inl (.inr rfl)),?_⟩
 show wpAnyH K .any ops (NoPanic Q) _ 0 #[true,true,true,true,true] _ _
 exact wpAnyH_done rE (NoPanic.normal fin) _
end
theorem Jaw {W:World}{X:Nat} (h:W.heap[X]?=J (U #[Y Z 0,Y Z 0,I V 0 0] 38 (0,0))):Qc3 W X:=by
 obtain ⟨⟨a,b,c⟩,d,e,f⟩:=Qq0 h
 exact ⟨(D.1 h).1,a,b,c,d,e,f⟩
structure LB (w1 X:World) (C:Array Value) (c s:Int) (a:Option Addr) (n cap:Nat):Prop where
 bM:X.heap[w1.heap.size]?=J (U C 40 (0,0))
 bN:X.heap[w1.heap.size+1]?=J (U #[Y Z c,Y Z s,I a n cap] 38 (0,0))
 bel:Below w1.heap.size w1 X
theorem Qec (w1:World){C:Array Value}(hC:MC C)(c s:Int)(a:Option Addr)(n cap:Nat) :
  ∃ X1 X3,Hid ((Instr.alloc 40 true (.tuple #[])).run K w1=.ok (E (J ⟨w1.heap.size,0,V⟩)) X1)∧X1.heap.size=w1.heap.size+1∧Hid ((Instr.storeAt 40 (E (J ⟨w1.heap.size,0,V⟩)) (.agg C)).run K (X1.alloc (U #[Y Z 0,Y Z 0,I V 0 0] 38))=.ok () X3)∧Hid (Qc3 X3 (w1.heap.size+1))∧Hid (LB w1 (((X3.setCell ⟨w1.heap.size+1,0,V⟩ (Y Z c)).setCell ⟨w1.heap.size+1,1,V⟩ (Y Z s)).setCell ⟨w1.heap.size+1,2,V⟩ (I a n cap)) C c s a n cap):=by
 have hX1:(w1.alloc (U zM 40)).heap.size=w1.heap.size+1:=by simp
 have hM:((w1.alloc (U zM 40)).alloc (U #[Y Z 0,Y Z 0,I V 0 0] 38)).heap[w1.heap.size]?=J (U zM 40 (0,0)):=by rw [Qc5 (by simp)]; exact heap_alloc_new w1 _
 have hN:((w1.alloc (U zM 40)).alloc (U #[Y Z 0,Y Z 0,I V 0 0] 38)).heap[w1.heap.size+1]?=J (U #[Y Z 0,Y Z 0,I V 0 0] 38 (0,0)):=by rw [← hX1]; exact heap_alloc_new _ _
 have h5:=Qex (C:=C) hM hC.1
 have h6:(((w1.alloc (U zM 40)).alloc (U #[Y Z 0,Y Z 0,I V 0 0] 38)).setCells w1.heap.size 0 C.toList).heap[w1.heap.size+1]?=J (U #[Y Z 0,Y Z 0,I V 0 0] 38 (0,0)):=by rw [Qax (by omega)]; exact hN
 have hb:Below w1.heap.size w1 ((w1.alloc (U zM 40)).alloc (U #[Y Z 0,Y Z 0,I V 0 0] 38)):=((Below.refl _ _).alloc (T _) _).alloc (by simp) _
 have hk:Qae (fun x=>x=w1.heap.size∨x=w1.heap.size+1) ((w1.alloc (U zM 40)).alloc (U #[Y Z 0,Y Z 0,I V 0 0] 38)) ((((w1.alloc (U zM 40)).alloc (U #[Y Z 0,Y Z 0,I V 0 0] 38)).setCells w1.heap.size 0 C.toList).setCells (w1.heap.size+1) 0 [Y Z c,Y Z s,I a n cap]):=((Qae.refl _ _).setCells _ 0 _ (.inl (.inl rfl))).setCells _ 0 _ (.inl (.inr rfl))
 refine ⟨_,_,Qav w1,hX1,Qd7 hM rfl hC,Jaw h6,⟨?_,?_,?_⟩⟩
 ·have:=Qax (w:=(((w1.alloc (U zM 40)).alloc (U #[Y Z 0,Y Z 0,I V 0 0] 38)).setCells w1.heap.size 0 C.toList)) (g:=w1.heap.size+1) (k:=w1.heap.size) (vs:=[Y Z c,Y Z s,I a n cap]) (by omega)
  exact this.trans h5
 ·exact Qex (C:=#[Y Z c,Y Z s,I a n cap]) h6 rfl
 ·exact hb.trans (hk.below _ hb.size (fun x e=>by omega))
theorem LB.later {w1 X X':World}{C:Array Value}{c s:Int}{a:Option Addr}{n cap:Nat} (h:LB w1 X C c s a n cap) (hb:Below X.heap.size X X'):LB w1 X' C c s a n cap :=
 ⟨by rw [hb.block _ (D.1 h.bM).1]; exact h.bM,by rw [hb.block _ (D.1 h.bN).1]; exact h.bN,h.bel.trans (hb.mono h.bel.size)⟩
section
attribute [local go_sem ↓] Qbe Qba keptM_alloc Qbb
theorem Qnc (S n c z:Nat)(a:Option Addr)(bs:List Nat)(s:Int)(d:Value)(w:World)(h:Qc6 w S (I a n c) 0 s d)(hn:bs.length=n)(hl:n≤100000)(hcap:n≤c)(hb:BRd w a bs)(hS:Qdb w)(hr:Qa6 bs=(z,0,0,[]))(hz:z=0∨n < z) :
  Calls K 14 #[E (J ⟨S,0,V⟩)] w fun e w'=>e=.returned (.tuple #[.agg zM,.agg #[Y Z 0,Y Z 0,I V 0 0],L false])∧Below w.heap.size w w':=by
 have KH:=Qes a c bs w (by omega) (by omega) hb hS _ hr
 rw [hn] at KH
 have HK:=Qaa KH
 simp only [List.length_nil] at HK
 have HSt:=Qaa h
 have c0:=h.c0
 have c1:=h.c1
 have zS:S < w.heap.size:=R w _ c0
 clear KH h hb hS hr
 go_enter Tryz.func14,Tryz.ntmps14
 go_wp2_with (refine Qah _ (Qav w) ?_)
 show Calls K 19 #[I a n c] (dW w) _
 with_reducible refine HK.out.mono ?_
 rintro e w1 ⟨a9,c9,rfl,HO,HB⟩
 have hsz:w.heap.size+1+1≤w1.heap.size:=by have:=HB.out.size; rw [Qdm] at this; exact this
 have HBW:Hid (Below w.heap.size w w1):=(Qdy w).trans (HB.out.mono (by omega))
 have hM:(w1.alloc (U #[Y Z 0,Y Z 0,I a9 0 c9] 38)).heap[w.heap.size]?=J (U zM 40 (0,0)):=by rw [Qc5 (by omega),HB.out.block _ (by omega)]; exact Qyh w
 have hN:(w1.alloc (U #[Y Z 0,Y Z 0,I a9 0 c9] 38)).heap[w.heap.size+1]?=J (U #[Y Z 0,Y Z 0,I V 0 0] 38 (0,0)):=by rw [Qc5 (by omega),HB.out.block _ (by omega)]; exact Qzc w
 obtain ⟨W2,hst,hN2,hRM,hRN,hK⟩:=Qjm hM rfl hN (by omega) MC.zero (Y Z 0) (Y Z 0) (I V 0 0)
 obtain ⟨⟨n0,n1,n2⟩,f0,f1,f2⟩:=Qq0 hN2
 have HST:=Qaa hst
 have HRM:=Qaa hRM
 have HRN:=Qaa hRN
 have HKK:=Qaa hK
 have hz2:w.heap.size+1 < W2.heap.size:=(D.1 hN2).1
 have d0:w1.cell? ⟨S,0,V⟩=J (I a n c):=by rw [HBW.out.cell (p:=⟨S,0,V⟩) zS]; exact c0
 have zS1:S < w1.heap.size:=by omega
 clear hst hRM hRN hK hN2 hM hN
 rcases hz with rfl | hz
 ·go_wp2_with (first | (refine Qaw _ (Qbp _) ?_) | (refine Qam _ _ (E (J ⟨w.heap.size,0,V⟩)) (.agg zM) (by rfl) (by rfl) HST.out ?_))
  refine bodyPost_ret (v:=.tuple #[.agg zM,.agg #[Y Z 0,Y Z 0,I V 0 0],L false]) (Qff Tryz.results14 _ _ w.heap.size (w.heap.size+1) zM _ _ rfl rfl rfl HRM.out HRN.out Tryz.underlying40 rfl infoM Tryz.underlying38 rfl infoN) rfl ⟨rfl,?_⟩
  exact (HBW.out.alloc (by omega) _).trans (HKK.out.below _ (by simp; omega) (fun x e=>by omega))
 ·have ez:((z:Int) == 0)=false:=by simp; omega
  have gz:(n:Int) < (z:Int):=by omega
  go_wp2_with (first | (refine Qaw _ (Qbp _) ?_) | (refine Qam _ _ (E (J ⟨w.heap.size,0,V⟩)) (.agg zM) (by rfl) (by rfl) HST.out ?_))
  refine bodyPost_ret (v:=.tuple #[.agg zM,.agg #[Y Z 0,Y Z 0,I V 0 0],L false]) (Qff Tryz.results14 _ _ w.heap.size (w.heap.size+1) zM _ _ rfl rfl rfl HRM.out HRN.out Tryz.underlying40 rfl infoM Tryz.underlying38 rfl infoN) rfl ⟨rfl,?_⟩
  exact (HBW.out.alloc (by omega) _).trans (HKK.out.below _ (by simp; omega) (fun x e=>by omega))
theorem Qxb (S n c:Nat)(a:Option Addr)(bs:List Nat)(s:Int)(d:Value)(w:World)(h:Qc6 w S (I a n c) 0 s d)(hn:bs.length=n)(hl:n≤100000)(hcap:n≤c)(hb:BRd w a bs)(hS:Qdb w)(k q:Nat)(nd:List Nat)(hr:Qa6 bs=(0,k,q,nd))(hk:k≠0) :
  Calls K 14 #[E (J ⟨S,0,V⟩)] w fun e w'=>(∃ u,e=.returned (.tuple #[.agg zM,u,L true])∧Qby w.heap.size w' u k q nd)∧Below w.heap.size w w':=by
 have KH:=Qes a c bs w (by omega) (by omega) hb hS _ hr
 rw [hn] at KH
 have HK:=Qaa KH
 simp only at HK
 have hkz:((k:Int) != 0)=true:=by simp; omega
 have c0:=h.c0
 have c1:=h.c1
 have zS:S < w.heap.size:=R w _ c0
 clear KH h hb hS hr hk
 unfold Qby
 generalize nd.length=dl at *
 go_enter Tryz.func14,Tryz.ntmps14
 go_wp2_with (refine Qah _ (Qav w) ?_)
 show Calls K 19 #[I a n c] (dW w) _
 with_reducible refine HK.out.mono ?_
 rintro e w1 ⟨a9,c9,rfl,HO,HB⟩
 have hsz:w.heap.size+1+1≤w1.heap.size:=by have:=HB.out.size; rw [Qdm] at this; exact this
 have HBW:Hid (Below w.heap.size w w1):=(Qdy w).trans (HB.out.mono (by omega))
 go_wp2_with fail
 have HMb2:Hid ((w1.alloc (U #[Y Z (k:Int),Y Z (q:Int),I a9 dl c9] 38)).heap[w.heap.size]?=J (U zM 40 (0,0))):=by
  show _=_; rw [Qc5 (by omega),HB.out.block _ (by omega)]; exact Qyh w
 have HNb2:Hid ((w1.alloc (U #[Y Z (k:Int),Y Z (q:Int),I a9 dl c9] 38)).heap[w.heap.size+1]?=J (U #[Y Z 0,Y Z 0,I V 0 0] 38 (0,0))):=by
  show _=_; rw [Qc5 (by omega),HB.out.block _ (by omega)]; exact Qzc w
 have HXb:Hid ((w1.alloc (U #[Y Z (k:Int),Y Z (q:Int),I a9 dl c9] 38)).heap[w1.heap.size]?=J (U #[Y Z (k:Int),Y Z (q:Int),I a9 dl c9] 38 (0,0))):=heap_alloc_new w1 _
 have HOW:Hid ((w1.alloc (U #[Y Z (k:Int),Y Z (q:Int),I a9 dl c9] 38)).ownsRow (w.heap.size+2) 5 1 (I a9 dl c9) dl (Qal nd)):=HO.out.alloc _
 have HBW2:Hid (Below w.heap.size w (w1.alloc (U #[Y Z (k:Int),Y Z (q:Int),I a9 dl c9] 38))):=HBW.out.alloc (by omega) _
 have hz9:(w1.alloc (U #[Y Z (k:Int),Y Z (q:Int),I a9 dl c9] 38)).heap.size=w1.heap.size+1:=by simp
 have HZ:=Qaa hz9
 clear hz9
 generalize (w1.alloc (U #[Y Z (k:Int),Y Z (q:Int),I a9 dl c9] 38))=W at *
 refine Qkj _ W w.heap.size (w.heap.size+1) 40 zM zM #[Y Z 0,Y Z 0,I V 0 0] #[Y Z (k:Int),Y Z (q:Int),I a9 dl c9] 35 36 _ _ (opi rfl) (opi rfl) (opi rfl) (opi rfl) (opi rfl) rfl (by kernel_rfl) (by kernel_rfl) (by kernel_rfl) (by kernel_rfl) (by kernel_rfl) (by kernel_rfl) (by kernel_rfl) (by kernel_rfl) (by kernel_rfl)
  (fun ty po af W' _=>Qdf W') (fun ty po af W' hW=>Qbw (by rfl) (by
   show W'.heap[w1.heap.size]?=_
   rw [hW.block _ (by rw [HZ.out]; omega) (by omega)]; exact HXb.out)) rfl rfl (show 35 < 70 by decide) (show 36 < 70 by decide) (by decide) HMb2.out HNb2.out (by omega) rfl rfl infoM infoN MC.zero.2 (by simp [Value.oneCell']) ?_
 simp only [Act.put,List.setIfInBounds_toArray,List.set_cons_zero,List.set_cons_succ]
 have HRM:Hid (((({ W with drawn:=W.drawn+1 } : World).setCells w.heap.size 0 zM.toList).setCells (w.heap.size+1) 0 (#[Value.int Z (k:Int),Y Z (q:Int),I a9 dl c9]:Array Value).toList).rangeAt w.heap.size 0 zM.toList):=Qb7 (Qb2 (w:={ W with drawn:=W.drawn+1 }) HMb2.out (T _)) (by omega)
 have HRN:Hid (((({ W with drawn:=W.drawn+1 } : World).setCells w.heap.size 0 zM.toList).setCells (w.heap.size+1) 0 (#[Value.int Z (k:Int),Y Z (q:Int),I a9 dl c9]:Array Value).toList).rangeAt (w.heap.size+1) 0 (#[Value.int Z (k:Int),Y Z (q:Int),I a9 dl c9]:Array Value).toList) :=
  Qb2 (C0:=#[Y Z 0,Y Z 0,I V 0 0]) (t:=38) (by rw [Qax (by omega)]; exact HNb2.out) (by simp)
 have HKe:Hid (Qae (fun x=>x=w.heap.size∨x=w.heap.size+1) W ((({ W with drawn:=W.drawn+1 } : World).setCells w.heap.size 0 zM.toList).setCells (w.heap.size+1) 0 (#[Value.int Z (k:Int),Y Z (q:Int),I a9 dl c9]:Array Value).toList)) :=
  (Qae.setCells (w:=W) (w1:={ W with drawn:=W.drawn+1 }) ⟨rfl,rfl,rfl,T _,fun _ _ _=>rfl⟩ _ 0 _ (.inl (.inl rfl))).setCells _ 0 _ (.inl (.inr rfl))
 generalize ((({ W with drawn:=W.drawn+1 } : World).setCells w.heap.size 0 zM.toList).setCells (w.heap.size+1) 0 (#[Value.int Z (k:Int),Y Z (q:Int),I a9 dl c9]:Array Value).toList)=W9 at *
 go_wp2_with fail
 refine bodyPost_ret (v:=.tuple #[.agg zM,.agg #[Y Z (k:Int),Y Z (q:Int),I a9 dl c9],L true]) (Qff Tryz.results14 _ W9 w.heap.size (w.heap.size+1) zM _ _ rfl rfl rfl HRM.out HRN.out Tryz.underlying40 rfl infoM Tryz.underlying38 rfl infoN) rfl ⟨⟨_,rfl,a9,c9,rfl,?_⟩,?_⟩
 ·exact Qa0 (Qas HOW.out HKe.out (by omega)) (by omega)
 ·exact HBW2.out.trans (HKe.out.below _ (by rw [HZ.out]; omega) (fun x e=>by omega))
end
theorem Tryz.infoInt:(K.info? 3).map (fun i=>(i.zero,i.size,i.bytes))=J (J (Y Z 0),1,8):=by kernel_rfl
theorem elemInt:Qsr 86 3 1 8:=by
 obtain ⟨i,h1,h2,h3,h4⟩:=Qcz Tryz.infoInt
 exact ⟨Tryz.underlying86,⟨i,_,h1,h2,h3,h4,rfl⟩,by omega,by omega⟩
def Qbi (l:List Int):List Value:=l.map fun z=>Value.int Z z
theorem Qkx (l r:List Int):Qbi (l++r)=Qbi l++Qbi r:=by simp [Qbi]
theorem Qlf (l:List Int):∀ u∈Qbi l,u.oneCell'=true:=by
 intro u hu
 obtain ⟨i,_,rfl⟩:=List.mem_map.1 hu
 rfl
theorem Qfw (l:List Int):(Qbi l).length=l.length:=by simp [Qbi]
theorem Qk6 (l:List Int)(j:Nat)(z:Int)(h:l[j]?=J z):(Qbi l)[j]?=J (Y Z z):=by simp [Qbi,h]
theorem Tryz.infoSeg:(K.info? 134).map (fun i=>(i.zero,i.size,i.bytes))=J (J (.agg #[L false,I V 0 0]),2,32):=by kernel_rfl
theorem elemSeg:Qsr 30 134 2 32:=by
 obtain ⟨i,h1,h2,h3,h4⟩:=Qcz Tryz.infoSeg
 exact ⟨Tryz.underlying30,⟨i,_,h1,h2,h3,h4,rfl⟩,by omega,by omega⟩
def Qa7 (w:World)(B:Nat)(v:Value)(ss:List (Bool×List Int)):Prop :=
 ∃ cs,w.ownsRow B 134 2 v ss.length cs∧∀ i s,ss[i]?=J s→cs[i * 2]?=J (L s.1)∧∃ u,cs[i * 2+1]?=J u∧w.ownsRow B 3 1 u s.2.length (Qbi s.2)
theorem Qa7.later {w w':World}{B:Nat}{v:Value}{ss:List (Bool×List Int)} (h:Qa7 w B v ss) (hb:Below w.heap.size w w'):Qa7 w' B v ss:=by
 obtain ⟨cs,ho,hc⟩:=h
 refine ⟨cs,Qaq ho hb,fun i s hi=>?_⟩
 obtain ⟨h1,u,h2,h3⟩:=hc i s hi
 exact ⟨h1,u,h2,Qaq h3 hb⟩
theorem Qa7.nil (w:World)(B:Nat):Qa7 w B (I V 0 0) []:=⟨[],Qbm _ _ _ _,fun i s h=>by simp at h⟩
theorem Qs2 {w:World}{B:Nat}{u:Value}{zs:List Int} (h:w.ownsRow B 3 1 u zs.length (Qbi zs)):∃ a c,u=I a zs.length c∧IRd w a zs:=by
 have hh:=h
 rcases h.2 with ⟨rfl,h0⟩ | ⟨g,cap,cur,rfl,_⟩
 ·exact ⟨V,0,by rw [h0],fun hp=>absurd hp (by omega)⟩
 ·refine ⟨_,_,rfl,fun _=>⟨g,0,rfl,fun j z hj=>?_⟩⟩
  have hjl:=(List.getElem?_eq_some_iff.1 hj).1
  rw [Nat.zero_add,hh.cellAt j (by omega)]
  exact Qk6 zs j z hj
theorem Qa7.rd {w:World}{B:Nat}{v:Value}{ss:List (Bool×List Int)} (h:Qa7 w B v ss) (hl:ss.length≤1000000) (hs:∀ s∈ss,s.2.length≤1000000):∃ a c,v=I a ss.length c∧Qmt w a ss:=by
 obtain ⟨cs,ho,hc⟩:=h
 have hh:=ho
 rcases ho.2 with ⟨rfl,h0⟩ | ⟨g,cap,cur,rfl,_⟩
 ·exact ⟨V,0,by rw [h0],⟨fun hp=>absurd hp (by omega),by unfold maxLen; omega,fun s hm=>by have:=hs s hm; unfold maxLen; omega⟩⟩
 ·refine ⟨_,_,rfl,⟨fun _=>⟨g,0,rfl,fun i s hi=>?_⟩,by unfold maxLen; omega,fun s hm=>by have:=hs s hm; unfold maxLen; omega⟩⟩
  have hil:=(List.getElem?_eq_some_iff.1 hi).1
  obtain ⟨h1,u,h2,h3⟩:=hc i s hi
  obtain ⟨a',c',rfl,h4⟩:=Qs2 h3
  rw [Nat.zero_add,hh.cellAt (i * 2) (by omega),hh.cellAt (i * 2+1) (by omega)]
  exact ⟨h1,a',c',h2,h4⟩
theorem Qa7.snoc {w:World}{B:Nat}{v u:Value}{ss:List (Bool×List Int)}{b:Bool}{zs:List Int} (h:Qa7 w B v ss) (hu:w.ownsRow B 3 1 u zs.length (Qbi zs)) (hone:u.oneCell'=true) (hB:B≤w.heap.size) (hl:ss.length≤100000) (H:Nat) (hH:w.heap.size=H) :
  ∃ v' w',(Builtin.append_ #[30,30] 30 #[v,I (J ⟨H,0,V⟩) 1 1]).run K (w.alloc (U #[L b,u] 134))=.ok v' w'∧Qa7 w' B v' (ss++[(b,zs)])∧Below B w w':=by
 subst hH
 obtain ⟨cs,ho,hc⟩:=h
 have hb1:Below B w (w.alloc (U #[L b,u] 134)):=(Below.refl _ _).alloc hB _
 have hbw:Below w.heap.size w (w.alloc (U #[L b,u] 134)):=(Below.refl _ _).alloc (T _) _
 obtain ⟨v',w',hr,h2,h3,h4,_⟩:=Qe7 elemSeg (w:=w.alloc (U #[L b,u] 134)) (ho.alloc _) (by simp; omega) ⟨w.heap.size,0,V⟩ 1 1 [L b,u] rfl (fun j x hx=>by
  rw [Addr.add_mid,Nat.zero_add,World.cell?_alloc_mark]
  simpa using hx) (by intro x hx; simp at hx; rcases hx with rfl | rfl; rfl; exact hone) (by omega)
 have hap:∀ (x:Value) (ys:List Int),w.ownsRow B 3 1 x ys.length (Qbi ys)→w'.ownsRow B 3 1 x ys.length (Qbi ys):=fun x ys hx =>
  Qdx (Qaq hx hbw) h4 (fun k hk=>Qdq hx ho (by decide) k hk)
 refine ⟨v',w',hr,⟨_,by rw [List.length_append]; exact h2,fun i s hi=>?_⟩,hb1.trans h3⟩
 have hcl:cs.length=ss.length * 2:=ho.1
 by_cases hlt:i < ss.length
 ·rw [List.getElem?_append_left hlt] at hi
  obtain ⟨g1,x,g2,g3⟩:=hc i s hi
  exact ⟨by rw [List.getElem?_append_left (by omega)]; exact g1,x,by rw [List.getElem?_append_left (by omega)]; exact g2,hap x _ g3⟩
 ·rw [List.getElem?_append_right (by omega)] at hi
  have hi0:i - ss.length=0:=by
   have:=(List.getElem?_eq_some_iff.1 hi).1
   simpa using this
  rw [hi0] at hi
  simp at hi
  subst hi
  have e1:i=ss.length:=by omega
  subst e1
  refine ⟨by rw [List.getElem?_append_right (by omega),hcl,Nat.sub_self]; rfl,u,by rw [List.getElem?_append_right (by omega),show ss.length * 2+1 - cs.length=1 from by omega]; rfl,hap u zs hu⟩
