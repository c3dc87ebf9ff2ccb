import Derived.Test.YtdojlejehjbliaaGreatDoorPA4
import Derived.Deep.RegionHeld3
namespace Go.Proofs.YtdojlejehjbliaaGreatDoor
set_option maxHeartbeats 4000000
open _root_.Option renaming some → I,none → Y
open _root_.Go.Proofs.Tryz renaming prog → J
open _root_.Go.Value renaming slice → V,int → U,pointer → E
open _root_.Go.Obj renaming cells → X
open _root_.Go.IntKind renaming i64 → K
open _root_.Nat renaming le_refl → D
open Go.RowKit
set_option maxRecDepth 100000
theorem infoN:(J.info? 38).map (·.size)=I 3:=by kernel_rfl
theorem Qar {fn:Func}{p q:Tmp}{tM tN:TypeId}{dM dN:TypeDesc} (h:fn.results=#[.cell p tM,.cell q tN]) (tmps:Array Value) (w:World) (gM gN:Nat) (CM CN:Array Value)
  (hp:tmps[p]?=I (E (I ⟨gM,0,Y⟩))) (hq:tmps[q]?=I (E (I ⟨gN,0,Y⟩))) (rM:w.rangeAt gM 0 CM.toList) (rN:w.rangeAt gN 0 CN.toList)
  (uM:J.underlying tM=I dM) (sM:dM.isRow=true) (iM:(J.info? tM).map (·.size)=I CM.size) (uN:J.underlying tN=I dN) (sN:dN.isRow=true) (iN:(J.info? tN).map (·.size)=I CN.size) :
  (results fn tmps).run J w=.ok (.tuple #[.agg CM,.agg CN]) w:=by
 have l1:=run_loadVar_mid (P:=J) w gM 0 tM CM.toList dM rM uM sM (by simpa using iM)
 have l2:=run_loadVar_mid (P:=J) w gN 0 tN CN.toList dN rN uN sN (by simpa using iN)
 have e1:tmps.getD p undef=E (I ⟨gM,0,Y⟩):=by rw [Array.getD_eq_getD_getElem?,hp]; rfl
 have e2:tmps.getD q undef=E (I ⟨gN,0,Y⟩):=by rw [Array.getD_eq_getD_getElem?,hq]; rfl
 unfold results
 rw [h]
 simp only [Array.mapM_eq_mapM_toList,List.mapM_cons,List.mapM_nil,e1,e2,asAddr,Sem.run_bind,Sem.run_pure]
 simp [Sem.run_bind,l1,l2]
theorem Qb2 {w:World}{g:Nat}{C0 C:Array Value}{t:TypeId} (h:w.heap[g]?=I (X C0 t (0,0))) (hs:C.size≤C0.size):(w.setCells g 0 C.toList).rangeAt g 0 C.toList :=
 World.rangeAt_setCells_same w g 0 C.toList (by simpa using Qek h _ hs)
theorem Qb7 {w:World}{g g':Nat}{cs vs:List Value} (h:w.rangeAt g 0 cs) (hne:g≠g'):(w.setCells g' 0 vs).rangeAt g 0 cs:=World.rangeAt_setCells_apart h g' 0 vs (.inl hne)
theorem Qax {w:World}{g k:Nat}{vs:List Value} (h:k≠g):(w.setCells g 0 vs).heap[k]?=w.heap[k]?:=by
 by_cases hk:k < w.heap.size
 ·exact (((Qae.refl (fun x=>x=g) w).setCells g 0 vs (.inl rfl))).block k hk h
 ·have hs:(w.setCells g 0 vs).heap.size=w.heap.size:=by
   have:∀ (vs:List Value) (o:Nat) (w:World),(w.setCells g o vs).heap.size=w.heap.size:=by
    intro vs
    induction vs with
    | nil=>intro o w; rfl
    | cons v r ih=>intro o w; rw [World.setCells,ih]; simp
   exact this vs 0 w
  rw [Array.getElem?_eq_none (by omega),Array.getElem?_eq_none (by omega)]
section
variable {ops:Array Oper}{Q:Exit→Act→World→Prop}{id:Nat}
theorem Qcp (b:Act)(w1:World)(gM gN:Nat)(tM:TypeId)(C0 C N0 N:Array Value)(sx sy:Nat)(ox oy:Op)
  (o0:opk ops 0 (I sx) (ox))
  (o1:opk ops 1 (I sy) (oy))
  (o2:opk ops 2 Y (.store tM (.tmp 2) (.tmp sx)))
  (o3:opk ops 3 Y (.store 38 (.tmp 3) (.tmp sy)))
  (hsz:ops.size=4) (hns:Region.noSelect ops=true)
  (f0:Region.free .any ops #[false,false,false,false] 0=true) (c0:(Region.ready .any ops #[false,false,false,false]).contains 0=true)
  (f1:Region.free .any ops #[true,false,false,false] 1=true) (c1:(Region.ready .any ops #[true,false,false,false]).contains 1=true)
  (r2:Region.ready .any ops #[true,true,false,false]=[2]) (r3:Region.ready .any ops #[true,true,true,false]=[3]) (rE:Region.ready .any ops #[true,true,true,true]=[])
  (hx:∀ ty po af W,Qae (fun k=>k=gM∨k=gN) w1 W→(execOp b.eval { dst:=I sx,op:=ox,type:=ty,pos:=po,after:=af,guard:=Y }).run J W=.ok (.value (.agg C)) W)
  (hy:∀ ty po af W,Qae (fun k=>k=gM∨k=gN) w1 W→(execOp (b.put (I sx) (.agg C)).eval { dst:=I sy,op:=oy,type:=ty,pos:=po,after:=af,guard:=Y }).run J W=.ok (.value (.agg N)) W)
  (h2:b.tmps[2]?=I (E (I ⟨gM,0,Y⟩))) (h3:b.tmps[3]?=I (E (I ⟨gN,0,Y⟩))) (hsx:sx < b.tmps.size) (hsy:sy < b.tmps.size) (n2:sx≠2∧sy≠2∧sx≠3∧sy≠3∧sx≠sy)
  (bM:w1.heap[gM]?=I (X C0 tM (0,0))) (bN:w1.heap[gN]?=I (X N0 38 (0,0))) (hne:gN≠gM) (zM:C.size=C0.size) (zN:N.size=N0.size) (iM:(J.info? tM).map (·.size)=I C.size) (iN:(J.info? 38).map (·.size)=I N.size)
  (aM:C.all (·.oneCell')=true) (aN:N.all (·.oneCell')=true)
  (fin:Q .normal ((b.put (I sx) (.agg C)).put (I sy) (.agg N)) ((({ w1 with drawn:=w1.drawn+1 } : World).setCells gM 0 C.toList).setCells gN 0 N.toList)) :
  (Code.region id ops true).wp J Q b w1:=by
 obtain ⟨t0,p0,e0,h0⟩:=o0
 obtain ⟨t1,p1,e1,h1⟩:=o1
 obtain ⟨t2,p2,e2,k2⟩:=o2
 obtain ⟨t3,p3,e3,k3⟩:=o3
 obtain ⟨x2,y2,x3,y3,xy⟩:=n2
 refine wp_region_noPanic ?_
 refine wp_region_held (S:=fun W=>Qae (fun k=>k=gM∨k=gN) w1 W) (by kernel_rfl) ?_
 rw [hsz]
 have hK:Qae (fun k=>k=gM∨k=gN) w1 { w1 with drawn:=w1.drawn+1 }:=⟨rfl,rfl,rfl,D _,fun _ _ _=>rfl⟩
 show wpAnyH J .any ops (NoPanic Q) _ (3+1) #[false,false,false,false] b _
 refine Qao h0 rfl rfl hns f0 c0 (fun _ _ _ _ h=>h) (fun W hW=>hx t0 p0 e0 W hW) hK ?_
 show wpAnyH J .any ops (NoPanic Q) _ (2+1) #[true,false,false,false] _ _
 refine Qao h1 rfl rfl hns f1 c1 (fun _ _ _ _ h=>h) (fun W hW=>hy t1 p1 e1 W hW) hK ?_
 show wpAnyH J .any ops (NoPanic Q) _ (1+1) #[true,true,false,false] _ _
 have v2:((b.put (I sx) (.agg C)).put (I sy) (.agg N)).tmps[2]?=I (E (I ⟨gM,0,Y⟩)):=by rw [Qab _ y2,Qab _ x2]; exact h2
 have v3:((b.put (I sx) (.agg C)).put (I sy) (.agg N)).tmps[3]?=I (E (I ⟨gN,0,Y⟩)):=by rw [Qab _ y3,Qab _ x3]; exact h3
 have vx:((b.put (I sx) (.agg C)).put (I sy) (.agg N)).tmps[sx]?=I (.agg C):=by rw [Qab _ (Ne.symm xy)]; exact Qak _ hsx
 have vy:((b.put (I sx) (.agg C)).put (I sy) (.agg N)).tmps[sy]?=I (.agg N):=Qak _ (by simp [Act.put]; exact hsy)
 refine wpAnyH_all r2 (by simp) fun i hi=>?_
 obtain rfl:i=2:=by simpa using hi
 refine Qbo k2 rfl ?_
 have bM':({ w1 with drawn:=w1.drawn+1 } : World).heap[gM]?=I (X C0 tM (0,0)):=bM
 have bN':(({ w1 with drawn:=w1.drawn+1 } : World).setCells gM 0 C.toList).heap[gN]?=I (X N0 38 (0,0)):=by rw [Qax hne]; exact bN
 unfold Oper.wp execOp
 simp only [Qaf v2,Qaf vx,Sem.run_bind,run_storeAt_mid _ gM 0 tM C (Qek bM' _ (by omega)) iM aM,Result.andThen_ok,Sem.run_pure]
 refine ⟨hK.setCells gM 0 _ (.inl (.inl rfl)),?_⟩
 show wpAnyH J .any ops (NoPanic Q) _ (0+1) #[true,true,true,false] _ _
 refine wpAnyH_all r3 (by simp) fun i hi=>?_
 obtain rfl:i=3:=by simpa using hi
 refine Qbo k3 rfl ?_
 unfold Oper.wp execOp
 have g1:(((b.put (I sx) (.agg C)).put (I sy) (.agg N)).put Y undef).eval (.tmp 3)=E (I ⟨gN,0,Y⟩):=Qaf v3
 have g2:(((b.put (I sx) (.agg C)).put (I sy) (.agg N)).put Y undef).eval (.tmp sy)=.agg N:=Qaf vy
 simp only [g1,g2,Sem.run_bind,run_storeAt_mid _ gN 0 38 N (Qek bN' _ (by omega)) iN aN,Result.andThen_ok,Sem.run_pure]
 refine ⟨(hK.setCells gM 0 _ (.inl (.inl rfl))).setCells gN 0 _ (.inl (.inr rfl)),?_⟩
 show wpAnyH J .any ops (NoPanic Q) _ 0 #[true,true,true,true] _ _
 exact wpAnyH_done rE (NoPanic.normal fin) _
end
def Qdd (w w':World)(e:Ending)(c s:Nat)(d:List Nat):Prop:=∃ u,e=.returned (.tuple #[.agg zM,u])∧Qby w.heap.size w' u c s d
def dW (w:World):World:=(w.alloc (X zM 40)).alloc (X #[U K 0,U K 0,V Y 0 0] 38)
theorem Qdm (w:World):(dW w).heap.size=w.heap.size+1+1:=by unfold dW; simp
theorem Qdy (w:World):Below w.heap.size w (dW w):=((Below.refl _ _).alloc (D _) _).alloc (by simp) _
theorem Qyh (w:World):(dW w).heap[w.heap.size]?=I (X zM 40 (0,0)):=by
 unfold dW World.alloc
 simp only
 rw [Array.getElem?_push_lt (by simp),Array.getElem_push_eq]
theorem Qzc (w:World):(dW w).heap[w.heap.size+1]?=I (X #[U K 0,U K 0,V Y 0 0] 38 (0,0)):=by
 unfold dW World.alloc
 simp only
 have:w.heap.size+1=(w.heap.push (X zM 40)).size:=by simp
 rw [this,Array.getElem?_push_size]
theorem Qes (a:Option Addr)(c:Nat)(bs:List Nat)(w:World)(hl:bs.length≤100000)(hcap:bs.length≤c)(h:BRd w a bs)(hS:Qdb w)(r:Nat×Nat×Nat×List Nat)(hr:Qa6 bs=r) :
  Calls J 19 #[V a bs.length c] (dW w) fun e w1=>∃ a9 c9,e=.returned (.tuple #[U K (r.1:Int),.agg #[U K (r.2.1:Int),U K (r.2.2.1:Int),V a9 r.2.2.2.length c9]])∧Hid (w1.ownsRow (w.heap.size+2) 5 1 (V a9 r.2.2.2.length c9) r.2.2.2.length (Qal r.2.2.2))∧Hid (Below (w.heap.size+2) (dW w) w1):=by
 subst hr
 refine (Qv8 a c bs (dW w) hl hcap (h.below (Qdy w)) (hS.below (Qdy w))).mono ?_
 rintro e w1 ⟨⟨u,rfl,a9,c9,rfl,ho⟩,hb⟩
 rw [Qdm] at ho hb
 exact ⟨a9,c9,rfl,ho,hb⟩
theorem Qc5 {w:World}{o:Obj}{k:Nat} (h:k < w.heap.size):(w.alloc o).heap[k]?=w.heap[k]?:=by
 unfold World.alloc
 simp only
 rw [Array.getElem?_push_lt h,Array.getElem?_eq_getElem h]
theorem Qas {F:Nat→Prop}{w w':World}{B e size n:Nat}{v:Value}{xs:List Value} (h:w.ownsRow B e size v n xs) (hk:Qae F w w') (hF:∀ x,B≤x→¬ F x):w'.ownsRow B e size v n xs:=by
 refine ⟨h.1,?_⟩
 rcases h.2 with hh | ⟨g,cap,cur,e1,hg,hc,rest⟩
 ·exact .inl hh
 ·exact .inr ⟨g,cap,cur,e1,hg,by rw [hk.block g (Array.getElem?_eq_some_iff.1 hc).1 (hF g hg)]; exact hc,rest⟩
section
variable {dst:Option Tmp}{ty:TypeId}{pos:String}{after:Array Edge}{ρ:Operand→Value}
theorem Qdf (w:World):(execOp ρ { dst:=dst,op:=.build 40 #[],type:=ty,pos:=pos,after:=after,guard:=Y }).run J w=.ok (.value (.agg zM)) w:=by
 unfold execOp
 have e:((#[]:Array (Nat×Operand)).map fun (i,x)=>(i,ρ x))=#[]:=by simp
 simp only [e,Sem.run_bind,Qbp,Result.andThen_ok,Sem.run_pure]
theorem Qbw {w:World}{x:Operand}{g:Nat}{c s v:Value} (hx:ρ x=E (I ⟨g,0,Y⟩)) (h:w.heap[g]?=I (X #[c,s,v] 38 (0,0))):(execOp ρ { dst:=dst,op:=.load 38 x,type:=ty,pos:=pos,after:=after,guard:=Y }).run J w=.ok (.value (.agg #[c,s,v])) w:=by
 have hr:=run_loadAt_mid (P:=J) w g 0 38 [c,s,v] _ (Qai h) Tryz.underlying38 rfl infoN
 unfold execOp
 simp only [hx,Sem.run_bind,hr,Result.andThen_ok,Sem.run_pure]
end
section
attribute [local go_sem ↓] Qbe Qba keptM_alloc Qbb
theorem Qy1 (a:Option Addr)(cp n:Nat)(bs:List Nat)(w:World)(hn:bs.length=n)(hl:bs.length≤100000)(hcap:bs.length≤cp)(h:BRd w a bs)(hS:Qdb w)(k s:Nat)(d:List Nat)(hr:Qa6 bs=(0,k,s,d))(hk:k≠0) :
  Calls J 7 #[V a n cp] w fun e w'=>Qdd w w' e k s d∧Below w.heap.size w w':=by
 have KH:=Qes a cp bs w hl hcap h hS _ hr
 rw [hn] at KH
 have HK:=Qaa KH
 clear KH h hS hl hcap hr hn
 have hkz:((k:Int) != 0)=true:=by simp; omega
 simp only at HK
 unfold Qdd Qby
 generalize d.length=dl at *
 go_enter Tryz.func7,Tryz.ntmps7
 go_wp2_with (refine Qah _ (Qav w) ?_)
 show Calls J 19 #[V a n cp] (dW w) _
 with_reducible refine HK.out.mono ?_
 rintro e w1 ⟨a9,c9,rfl,HO,HB⟩
 have HMb:Hid (w1.heap[w.heap.size]?=I (X zM 40 (0,0))):=by show _=_; rw [HB.out.block _ (by omega)]; exact Qyh w
 have HNb:Hid (w1.heap[w.heap.size+1]?=I (X #[U K 0,U K 0,V Y 0 0] 38 (0,0))):=by show _=_; rw [HB.out.block _ (by omega)]; exact Qzc w
 have hsz:w.heap.size+1+1≤w1.heap.size:=by have:=HB.out.size; rw [Qdm] at this; exact this
 have HBW:Hid (Below w.heap.size w w1):=(Qdy w).trans (HB.out.mono (by omega))
 go_wp2_with fail
 have HMb2:Hid ((w1.alloc (X #[U K (k:Int),U K (s:Int),V a9 dl c9] 38)).heap[w.heap.size]?=I (X zM 40 (0,0))):=by
  show _=_; rw [Qc5 (by omega)]; exact HMb.out
 have HNb2:Hid ((w1.alloc (X #[U K (k:Int),U K (s:Int),V a9 dl c9] 38)).heap[w.heap.size+1]?=I (X #[U K 0,U K 0,V Y 0 0] 38 (0,0))):=by
  show _=_; rw [Qc5 (by omega)]; exact HNb.out
 have HXb:Hid ((w1.alloc (X #[U K (k:Int),U K (s:Int),V a9 dl c9] 38)).heap[w1.heap.size]?=I (X #[U K (k:Int),U K (s:Int),V a9 dl c9] 38 (0,0))):=heap_alloc_new w1 _
 have HOW:Hid ((w1.alloc (X #[U K (k:Int),U K (s:Int),V a9 dl c9] 38)).ownsRow (w.heap.size+2) 5 1 (V a9 dl c9) dl (Qal d)):=HO.out.alloc _
 have HBW2:Hid (Below w.heap.size w (w1.alloc (X #[U K (k:Int),U K (s:Int),V a9 dl c9] 38))):=HBW.out.alloc (by omega) _
 have hz9:(w1.alloc (X #[U K (k:Int),U K (s:Int),V a9 dl c9] 38)).heap.size=w1.heap.size+1:=by simp
 have HZ:=Qaa hz9
 clear hz9
 generalize (w1.alloc (X #[U K (k:Int),U K (s:Int),V a9 dl c9] 38))=W at *
 refine Qcp _ W w.heap.size (w.heap.size+1) 40 zM zM #[U K 0,U K 0,V Y 0 0] #[U K (k:Int),U K (s:Int),V a9 dl c9] 16 17 _ _ (opi rfl) (opi rfl) (opi rfl) (opi rfl) rfl (by kernel_rfl) (by kernel_rfl) (by kernel_rfl) (by kernel_rfl) (by kernel_rfl) (by kernel_rfl) (by kernel_rfl) (by kernel_rfl)
  (fun ty po af W' _=>Qdf W') (fun ty po af W' hW=>Qbw (by rfl) (by
   show W'.heap[w1.heap.size]?=_
   rw [hW.block _ (by rw [HZ.out]; omega) (by omega)]; exact HXb.out)) rfl rfl (show 16 < 75 by decide) (show 17 < 75 by decide) (by decide) HMb2.out HNb2.out (by omega) rfl rfl infoM infoN MC.zero.2 (by simp [Value.oneCell']) ?_
 simp only [Act.put,List.setIfInBounds_toArray,List.set_cons_zero,List.set_cons_succ]
 have HRM:Hid (((({ W with drawn:=W.drawn+1 } : World).setCells w.heap.size 0 zM.toList).setCells (w.heap.size+1) 0 (#[Value.int K (k:Int),U K (s:Int),V a9 dl c9]:Array Value).toList).rangeAt w.heap.size 0 zM.toList):=Qb7 (Qb2 (w:={ W with drawn:=W.drawn+1 }) HMb2.out (D _)) (by omega)
 have HRN:Hid (((({ W with drawn:=W.drawn+1 } : World).setCells w.heap.size 0 zM.toList).setCells (w.heap.size+1) 0 (#[Value.int K (k:Int),U K (s:Int),V a9 dl c9]:Array Value).toList).rangeAt (w.heap.size+1) 0 (#[Value.int K (k:Int),U K (s:Int),V a9 dl c9]:Array Value).toList) :=
  Qb2 (C0:=#[U K 0,U K 0,V Y 0 0]) (t:=38) (by rw [Qax (by omega)]; exact HNb2.out) (by simp)
 have HKe:Hid (Qae (fun x=>x=w.heap.size∨x=w.heap.size+1) W ((({ W with drawn:=W.drawn+1 } : World).setCells w.heap.size 0 zM.toList).setCells (w.heap.size+1) 0 (#[Value.int K (k:Int),U K (s:Int),V a9 dl c9]:Array Value).toList)) :=
  (Qae.setCells (w:=W) (w1:={ W with drawn:=W.drawn+1 }) ⟨rfl,rfl,rfl,D _,fun _ _ _=>rfl⟩ _ 0 _ (.inl (.inl rfl))).setCells _ 0 _ (.inl (.inr rfl))
 generalize ((({ W with drawn:=W.drawn+1 } : World).setCells w.heap.size 0 zM.toList).setCells (w.heap.size+1) 0 (#[Value.int K (k:Int),U K (s:Int),V a9 dl c9]:Array Value).toList)=W9 at *
 go_wp2_with fail
 refine bodyPost_ret (v:=.tuple #[.agg zM,.agg #[U K (k:Int),U K (s:Int),V a9 dl c9]]) (Qar Tryz.results7 _ W9 w.heap.size (w.heap.size+1) zM _ rfl rfl HRM.out HRN.out Tryz.underlying40 rfl infoM Tryz.underlying38 rfl infoN) rfl ⟨⟨_,rfl,a9,c9,rfl,?_⟩,?_⟩
 ·exact Qa0 (Qas HOW.out HKe.out (by omega)) (by omega)
 ·exact HBW2.out.trans (HKe.out.below _ (by rw [HZ.out]; omega) (fun x e=>by omega))
end
theorem Qfr {g:Nat}{t:TypeId}{f:Nat×Nat} : ∀ (vs:List Value) (o:Nat) (w:World) (C0:Array Value),w.heap[g]?=I (X C0 t f)→∃ C',(w.setCells g o vs).heap[g]?=I (X C' t f)∧C'.size=C0.size
 | [],o,w,C0,h=>⟨C0,h,rfl⟩
 | v :: r,o,w,C0,h=>by
  rw [World.setCells]
  have h1:(w.setCell ⟨g,o,Y⟩ v).heap[g]?=I (X (C0.setIfInBounds o v) t f):=by
   unfold World.setCell
   simp only [Array.getElem?_modify,if_true,h,Option.map_some]
   rfl
  obtain ⟨C',h2,h3⟩:=Qfr r (o+1) _ _ h1
  exact ⟨C',h2,by rw [h3]; simp⟩
theorem Qex {w:World}{g:Nat}{C0 C:Array Value}{t:TypeId} (h:w.heap[g]?=I (X C0 t (0,0))) (hs:C.size=C0.size):(w.setCells g 0 C.toList).heap[g]?=I (X C t (0,0)):=by
 obtain ⟨C',h2,h3⟩:=Qfr C.toList 0 w C0 h
 have hr:=Qb2 (C:=C) h (by omega)
 have:C'=C:=by
  apply Array.ext_getElem?
  intro j
  by_cases hj:j < C.size
  ·have h5:=hr j C[j] (by rw [Array.getElem?_toList,Array.getElem?_eq_getElem hj])
   unfold World.cell? at h5
   simp only [h2,Nat.zero_add] at h5
   rw [Array.getElem?_eq_getElem hj]
   simpa using h5
  ·rw [Array.getElem?_eq_none (by omega),Array.getElem?_eq_none (by omega)]
 rw [h2,this]
section
variable {ops:Array Oper}{Q:Exit→Act→World→Prop}{id:Nat}
/-- 'm, body := api.Msg{Kind: int(b[18])}, b[19:]'. -/
theorem Qgn (b:Act)(w1:World)(g o n c kd:Nat)
  (o0:opk ops 0 (I 29) (.move (.tmp 0)))
  (o1:opk ops 1 (I 30) (.indexAddr 22 (.tmp 29) (.const (U K 18))))
  (o2:opk ops 2 (I 31) (.load 5 (.tmp 30)))
  (o3:opk ops 3 (I 32) (.convert 5 3 (.tmp 31)))
  (o4:opk ops 4 (I 33) (.build 40 #[(0,.tmp 32)]))
  (o5:opk ops 5 (I 34) (.move (.tmp 0)))
  (o6:opk ops 6 (I 35) (.slice 22 (.tmp 34) (I (.const (U K 19))) Y Y))
  (o7:opk ops 7 (I 6) (.alloc 40))
  (o8:opk ops 8 Y (.store 40 (.tmp 6) (.tmp 33)))
  (o9:opk ops 9 (I 7) (.assign (.tmp 35)))
  (hsz:ops.size=10) (hns:Region.noSelect ops=true)
  (t0:tk ops #[false,false,false,false,false,false,false,false,false,false] 0=true)
  (t1:tk ops #[true,false,false,false,false,false,false,false,false,false] 1=true)
  (t2:tk ops #[true,true,false,false,false,false,false,false,false,false] 2=true)
  (t3:tk ops #[true,true,true,false,false,false,false,false,false,false] 3=true)
  (t4:tk ops #[true,true,true,true,false,false,false,false,false,false] 4=true)
  (t5:tk ops #[true,true,true,true,true,false,false,false,false,false] 5=true)
  (t6:tk ops #[true,true,true,true,true,true,false,false,false,false] 6=true)
  (r7:Region.ready .any ops #[true,true,true,true,true,true,true,false,false,false]=[7]) (r8:Region.ready .any ops #[true,true,true,true,true,true,true,true,false,false]=[8])
  (r9:Region.ready .any ops #[true,true,true,true,true,true,true,true,true,false]=[9]) (rE:Region.ready .any ops #[true,true,true,true,true,true,true,true,true,true]=[])
  (hb:b.tmps.size=75) (h0:b.tmps[0]?=I (V (I ⟨g,o,Y⟩) n c)) (hn:19≤n) (hl:n≤100000) (hkd:kd < 256) (h18:w1.cell? ⟨g,o+18,Y⟩=I (U .u8 (kd:Int)))
  (fin:∀ a W6,Fr [29,30,31,32,33,34,35,6,7] b a→a.tmps[6]?=I (E (I ⟨w1.heap.size,0,Y⟩))→a.tmps[7]?=I (V (if c=19 then I ⟨g,o,Y⟩ else I ⟨g,o+19,Y⟩) (n - 19) (c - 19))→W6.heap[w1.heap.size]?=I (X (Qbt (kd:Int) 0 0 (V Y 0 0)) 40 (0,0))→Below w1.heap.size w1 W6→Q .normal a W6) :
  (Code.region id ops true).wp J Q b w1:=by
 obtain ⟨a0,p0,e0,h0'⟩:=o0
 obtain ⟨a1,p1,e1,h1'⟩:=o1
 obtain ⟨a2,p2,e2,h2'⟩:=o2
 obtain ⟨a3,p3,e3,h3'⟩:=o3
 obtain ⟨a4,p4,e4,h4'⟩:=o4
 obtain ⟨a5,p5,e5,h5'⟩:=o5
 obtain ⟨a6,p6,e6,h6'⟩:=o6
 obtain ⟨a7,p7,e7,h7'⟩:=o7
 obtain ⟨a8,p8,e8,h8'⟩:=o8
 obtain ⟨a9,p9,e9,h9'⟩:=o9
 have hg:=World.block_lt_of_cell? w1 _ h18
 simp only at hg
 have hn18:(18:Int) < (n:Int):=by omega
 refine wp_region_noPanic ?_
 refine wp_region_held (S:=fun W=>Below w1.heap.size w1 W) (by kernel_rfl) ?_
 rw [hsz]
 have hdr:Below w1.heap.size w1 { w1 with drawn:=w1.drawn+1 }:=(Below.refl _ w1).drew
 obtain ⟨X7,hX7⟩:∃ X7,X7=({ w1 with drawn:=w1.drawn+1 } : World).alloc (X zM 40):=⟨_,rfl⟩
 have hb7:Below w1.heap.size w1 X7:=by rw [hX7]; exact hdr.alloc (D _) _
 have bx:X7.heap[w1.heap.size]?=I (X zM 40 (0,0)):=by rw [hX7]; exact heap_alloc_new ({ w1 with drawn:=w1.drawn+1 } : World) _
 have f0:Fr [29,30,31,32,33,34,35,6,7] b b:=Fr.refl _ _
 show wpAnyH J .any ops (NoPanic Q) _ (9+1) #[false,false,false,false,false,false,false,false,false,false] _ _
 refine Qao h0' rfl rfl hns (tk1 t0) (tk2 t0) (v:=(V (I ⟨g,o,Y⟩) n c)) (fun _ _ _ _ h=>h) (fun W _=>Qdg _ W _ _ _ rfl (Qaf (f0.slot (by decide) h0))) hdr ?_
 obtain ⟨A1,hA1⟩:∃ Z,Z=b.put (I 29) (V (I ⟨g,o,Y⟩) n c):=⟨_,rfl⟩
 rw [← hA1]
 have f1:Fr [29,30,31,32,33,34,35,6,7] b A1:=by rw [hA1]; exact f0.put (by decide) _
 have g1_29:A1.tmps[29]?=I (V (I ⟨g,o,Y⟩) n c):=by rw [hA1]; exact Qak _ (by rw [f0.size,hb]; decide)
 clear hA1
 show wpAnyH J .any ops (NoPanic Q) _ (8+1) #[true,false,false,false,false,false,false,false,false,false] _ _
 refine Qao h1' rfl rfl hns (tk1 t1) (tk2 t1) (v:=(E (I ⟨g,o+18,Y⟩))) (fun _ _ _ _ h=>h) (fun W _=>by
  have q:=Qaf g1_29
  unfold execOp
  simp only [q]
  simp [go_sem,hn18]) hdr ?_
 obtain ⟨A2,hA2⟩:∃ Z,Z=A1.put (I 30) (E (I ⟨g,o+18,Y⟩)):=⟨_,rfl⟩
 rw [← hA2]
 have f2:Fr [29,30,31,32,33,34,35,6,7] b A2:=by rw [hA2]; exact f1.put (by decide) _
 have g2_29:A2.tmps[29]?=I (V (I ⟨g,o,Y⟩) n c):=by rw [hA2,Qab _ (by decide)]; exact g1_29
 have g2_30:A2.tmps[30]?=I (E (I ⟨g,o+18,Y⟩)):=by rw [hA2]; exact Qak _ (by rw [f1.size,hb]; decide)
 clear hA2
 clear g2_29
 show wpAnyH J .any ops (NoPanic Q) _ (7+1) #[true,true,false,false,false,false,false,false,false,false] _ _
 refine Qao h2' rfl rfl hns (tk1 t2) (tk2 t2) (v:=(U .u8 (kd:Int))) (fun _ _ _ _ h=>h) (fun W hW=>by
  have q:=Qaf g2_30
  have q2:W.cell? ⟨g,o+18,Y⟩=I (U .u8 (kd:Int)):=by rw [hW.cell (p:=⟨g,o+18,Y⟩) hg]; exact h18
  unfold execOp
  simp only [q]
  simp [go_sem,q2]) hdr ?_
 obtain ⟨A3,hA3⟩:∃ Z,Z=A2.put (I 31) (U .u8 (kd:Int)):=⟨_,rfl⟩
 rw [← hA3]
 have f3:Fr [29,30,31,32,33,34,35,6,7] b A3:=by rw [hA3]; exact f2.put (by decide) _
 have g3_30:A3.tmps[30]?=I (E (I ⟨g,o+18,Y⟩)):=by rw [hA3,Qab _ (by decide)]; exact g2_30
 have g3_31:A3.tmps[31]?=I (U .u8 (kd:Int)):=by rw [hA3]; exact Qak _ (by rw [f2.size,hb]; decide)
 clear hA3
 clear g3_30
 show wpAnyH J .any ops (NoPanic Q) _ (6+1) #[true,true,true,false,false,false,false,false,false,false] _ _
 refine Qao h3' rfl rfl hns (tk1 t3) (tk2 t3) (v:=(U K (kd:Int))) (fun _ _ _ _ h=>h) (fun W _=>by
  have q:=Qaf g3_31
  unfold execOp
  simp only [q]
  simp [go_sem]
  rw [IntKind.wrap_i64]
  omega) hdr ?_
 obtain ⟨A4,hA4⟩:∃ Z,Z=A3.put (I 32) (U K (kd:Int)):=⟨_,rfl⟩
 rw [← hA4]
 have f4:Fr [29,30,31,32,33,34,35,6,7] b A4:=by rw [hA4]; exact f3.put (by decide) _
 have g4_31:A4.tmps[31]?=I (U .u8 (kd:Int)):=by rw [hA4,Qab _ (by decide)]; exact g3_31
 have g4_32:A4.tmps[32]?=I (U K (kd:Int)):=by rw [hA4]; exact Qak _ (by rw [f3.size,hb]; decide)
 clear hA4
 clear g4_31
 show wpAnyH J .any ops (NoPanic Q) _ (5+1) #[true,true,true,true,false,false,false,false,false,false] _ _
 refine Qao h4' rfl rfl hns (tk1 t4) (tk2 t4) (v:=(.agg (Qbt (kd:Int) 0 0 (V Y 0 0)))) (fun _ _ _ _ h=>h) (fun W _=>by
  have q:=Qaf g4_32
  unfold execOp
  have e:(#[((0:Nat),Operand.tmp 32)].map fun (i,x)=>(i,A4.eval x))=#[(0,U K (kd:Int))]:=by simp [q]
  simp only [e,Sem.run_bind,Qg6,Result.andThen_ok,Sem.run_pure]) hdr ?_
 obtain ⟨A5,hA5⟩:∃ Z,Z=A4.put (I 33) (.agg (Qbt (kd:Int) 0 0 (V Y 0 0))):=⟨_,rfl⟩
 rw [← hA5]
 have f5:Fr [29,30,31,32,33,34,35,6,7] b A5:=by rw [hA5]; exact f4.put (by decide) _
 have g5_32:A5.tmps[32]?=I (U K (kd:Int)):=by rw [hA5,Qab _ (by decide)]; exact g4_32
 have g5_33:A5.tmps[33]?=I (.agg (Qbt (kd:Int) 0 0 (V Y 0 0))):=by rw [hA5]; exact Qak _ (by rw [f4.size,hb]; decide)
 clear hA5
 clear g5_32
 show wpAnyH J .any ops (NoPanic Q) _ (4+1) #[true,true,true,true,true,false,false,false,false,false] _ _
 refine Qao h5' rfl rfl hns (tk1 t5) (tk2 t5) (v:=(V (I ⟨g,o,Y⟩) n c)) (fun _ _ _ _ h=>h) (fun W _=>Qdg _ W _ _ _ rfl (Qaf (f5.slot (by decide) h0))) hdr ?_
 obtain ⟨A6,hA6⟩:∃ Z,Z=A5.put (I 34) (V (I ⟨g,o,Y⟩) n c):=⟨_,rfl⟩
 rw [← hA6]
 have f6:Fr [29,30,31,32,33,34,35,6,7] b A6:=by rw [hA6]; exact f5.put (by decide) _
 have g6_33:A6.tmps[33]?=I (.agg (Qbt (kd:Int) 0 0 (V Y 0 0))):=by rw [hA6,Qab _ (by decide)]; exact g5_33
 have g6_34:A6.tmps[34]?=I (V (I ⟨g,o,Y⟩) n c):=by rw [hA6]; exact Qak _ (by rw [f5.size,hb]; decide)
 clear hA6
 show wpAnyH J .any ops (NoPanic Q) _ (3+1) #[true,true,true,true,true,true,false,false,false,false] _ _
 refine Qao h6' rfl rfl hns (tk1 t6) (tk2 t6) (v:=(V (if c=19 then I ⟨g,o,Y⟩ else I ⟨g,o+19,Y⟩) (n - 19) (c - 19))) (fun _ _ _ _ h=>h) (fun W _=>by
  have q:=Qaf g6_34
  unfold execOp
  simp only [q]
  by_cases hc19:c=19
  ·simp [go_sem,hc19]
   omega
  ·simp [go_sem,hc19]
   omega) hdr ?_
 obtain ⟨A7,hA7⟩:∃ Z,Z=A6.put (I 35) (V (if c=19 then I ⟨g,o,Y⟩ else I ⟨g,o+19,Y⟩) (n - 19) (c - 19)):=⟨_,rfl⟩
 rw [← hA7]
 have f7:Fr [29,30,31,32,33,34,35,6,7] b A7:=by rw [hA7]; exact f6.put (by decide) _
 have g7_33:A7.tmps[33]?=I (.agg (Qbt (kd:Int) 0 0 (V Y 0 0))):=by rw [hA7,Qab _ (by decide)]; exact g6_33
 have g7_34:A7.tmps[34]?=I (V (I ⟨g,o,Y⟩) n c):=by rw [hA7,Qab _ (by decide)]; exact g6_34
 have g7_35:A7.tmps[35]?=I (V (if c=19 then I ⟨g,o,Y⟩ else I ⟨g,o+19,Y⟩) (n - 19) (c - 19)):=by rw [hA7]; exact Qak _ (by rw [f6.size,hb]; decide)
 clear hA7
 clear g7_34
 show wpAnyH J .any ops (NoPanic Q) _ (2+1) #[true,true,true,true,true,true,true,false,false,false] _ _
 refine wpAnyH_all r7 (by simp) fun i hi=>?_
 obtain rfl:i=7:=by simpa using hi
 refine Qbo h7' rfl (Qgr (w':=X7) (v:=E (I ⟨w1.heap.size,0,Y⟩)) (by
  unfold execOp
  simp only [Sem.run_bind,Qav,Result.andThen_ok,Sem.run_pure]
  rw [hX7]) ?_)
 refine ⟨hb7,?_⟩
 show wpAnyH J .any ops (NoPanic Q) _ 2 #[true,true,true,true,true,true,true,true,false,false] (A7.put (I 6) (E (I ⟨w1.heap.size,0,Y⟩))) _
 obtain ⟨A8,hA8⟩:∃ Z,Z=A7.put (I 6) (E (I ⟨w1.heap.size,0,Y⟩)):=⟨_,rfl⟩
 rw [← hA8]
 have f8:Fr [29,30,31,32,33,34,35,6,7] b A8:=by rw [hA8]; exact f7.put (by decide) _
 have g8_33:A8.tmps[33]?=I (.agg (Qbt (kd:Int) 0 0 (V Y 0 0))):=by rw [hA8,Qab _ (by decide)]; exact g7_33
 have g8_35:A8.tmps[35]?=I (V (if c=19 then I ⟨g,o,Y⟩ else I ⟨g,o+19,Y⟩) (n - 19) (c - 19)):=by rw [hA8,Qab _ (by decide)]; exact g7_35
 have g8_6:A8.tmps[6]?=I (E (I ⟨w1.heap.size,0,Y⟩)):=by rw [hA8]; exact Qak _ (by rw [f7.size,hb]; decide)
 clear hA8
 show wpAnyH J .any ops (NoPanic Q) _ (1+1) #[true,true,true,true,true,true,true,true,false,false] _ _
 refine wpAnyH_all r8 (by simp) fun i hi=>?_
 obtain rfl:i=8:=by simpa using hi
 refine Qbo h8' rfl ?_
 unfold Oper.wp execOp
 simp only [Qaf g8_6,Qaf g8_33,Sem.run_bind,Qd7 bx rfl (MC.msg (kd:Int) 0 0 Y 0 0),Result.andThen_ok,Sem.run_pure]
 have hb8:Below w1.heap.size w1 (X7.setCells w1.heap.size 0 (Qbt (kd:Int) 0 0 (V Y 0 0)).toList):=hb7.trans (((Qae.refl (fun x=>x=w1.heap.size) _).setCells w1.heap.size 0 _ (.inl rfl)).below w1.heap.size hb7.size (fun x e=>by omega))
 refine ⟨hb8,?_⟩
 show wpAnyH J .any ops (NoPanic Q) _ 1 #[true,true,true,true,true,true,true,true,true,false] A8 _
 show wpAnyH J .any ops (NoPanic Q) _ (0+1) #[true,true,true,true,true,true,true,true,true,false] _ _
 refine wpAnyH_all r9 (by simp) fun i hi=>?_
 obtain rfl:i=9:=by simpa using hi
 refine Qbo h9' rfl (Qgr (v:=(V (if c=19 then I ⟨g,o,Y⟩ else I ⟨g,o+19,Y⟩) (n - 19) (c - 19))) (by
  have q:=Qaf g8_35
  unfold execOp
  simp only [q,Sem.run_pure]
  rfl) ?_)
 refine ⟨hb8,?_⟩
 show wpAnyH J .any ops (NoPanic Q) _ 0 #[true,true,true,true,true,true,true,true,true,true] (A8.put (I 7) (V (if c=19 then I ⟨g,o,Y⟩ else I ⟨g,o+19,Y⟩) (n - 19) (c - 19))) _
 obtain ⟨A9,hA9⟩:∃ Z,Z=A8.put (I 7) (V (if c=19 then I ⟨g,o,Y⟩ else I ⟨g,o+19,Y⟩) (n - 19) (c - 19)):=⟨_,rfl⟩
 rw [← hA9]
 have f9:Fr [29,30,31,32,33,34,35,6,7] b A9:=by rw [hA9]; exact f8.put (by decide) _
 have g9_33:A9.tmps[33]?=I (.agg (Qbt (kd:Int) 0 0 (V Y 0 0))):=by rw [hA9,Qab _ (by decide)]; exact g8_33
 have g9_35:A9.tmps[35]?=I (V (if c=19 then I ⟨g,o,Y⟩ else I ⟨g,o+19,Y⟩) (n - 19) (c - 19)):=by rw [hA9,Qab _ (by decide)]; exact g8_35
 have g9_6:A9.tmps[6]?=I (E (I ⟨w1.heap.size,0,Y⟩)):=by rw [hA9,Qab _ (by decide)]; exact g8_6
 have g9_7:A9.tmps[7]?=I (V (if c=19 then I ⟨g,o,Y⟩ else I ⟨g,o+19,Y⟩) (n - 19) (c - 19)):=by rw [hA9]; exact Qak _ (by rw [f8.size,hb]; decide)
 clear hA9
 exact wpAnyH_done rE (NoPanic.normal (fin _ _ f9 g9_6 g9_7 (Qex bx rfl) hb8)) _
end
