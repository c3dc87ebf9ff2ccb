import Derived.Test.YtogbjeaceboemaaGreatDoorPA6
import Derived.Deep.MidRow
import Derived.Deep.RegionHeld3
import Derived.Lib.UnsafeStr
namespace Go.Proofs.YtogbjeaceboemaaGreatDoor
open Go.RowKit
set_option maxRecDepth 100000
def MC (C:Array Value):Prop:=C.size=25∧C.all (·.oneCell')=true
def zM:Array Value:=msgC 0 0 0 (.slice none 0 0)
theorem MC.msg (k c s:Int)(a:Option Addr)(n cap:Nat):MC (msgC k c s (.slice a n cap)):=⟨rfl,by simp [msgC,Value.oneCell']⟩
theorem MC.zero:MC zM:=MC.msg 0 0 0 none 0 0
section
variable {P:Program}{a:Act}{w w':World}{K:Act→World→Prop}{Q:Exit→Act→World→Prop}{dst:Option Tmp}{ty:TypeId}{pos:String}{after:Array Edge}{gd:Option (Nat×Bool)}
theorem keptM_load (x:Operand):Oper.wp P { dst:=dst,op:=.load 40 x,type:=ty,pos:=pos,after:=after,guard:=gd } a w K Q=Kept P { dst:=dst,op:=.load 40 x,type:=ty,pos:=pos,after:=after,guard:=gd } a w K Q:=rfl
theorem keptM_store (x y:Operand):Oper.wp P { dst:=dst,op:=.store 40 x y,type:=ty,pos:=pos,after:=after,guard:=gd } a w K Q=Kept P { dst:=dst,op:=.store 40 x y,type:=ty,pos:=pos,after:=after,guard:=gd } a w K Q:=rfl
theorem keptM_box (x:Operand):Oper.wp P { dst:=dst,op:=.box 40 x,type:=ty,pos:=pos,after:=after,guard:=gd } a w K Q=Kept P { dst:=dst,op:=.box 40 x,type:=ty,pos:=pos,after:=after,guard:=gd } a w K Q:=rfl
theorem keptM_alloc:Oper.wp P { dst:=dst,op:=.alloc 40,type:=ty,pos:=pos,after:=after,guard:=gd } a w K Q=Kept P { dst:=dst,op:=.alloc 40,type:=ty,pos:=pos,after:=after,guard:=gd } a w K Q:=rfl
theorem keptM_build (xs:Array (Nat×Operand)):Oper.wp P { dst:=dst,op:=.build 40 xs,type:=ty,pos:=pos,after:=after,guard:=gd } a w K Q=Kept P { dst:=dst,op:=.build 40 xs,type:=ty,pos:=pos,after:=after,guard:=gd } a w K Q:=rfl
theorem keptM_load_intro (x:Operand)(p v:Value)(hx:a.eval x=p)(hr:(Instr.loadAt 40 p).run P w=.ok v w)(h:K (a.put dst v) w):Kept P { dst:=dst,op:=.load 40 x,type:=ty,pos:=pos,after:=after,guard:=gd } a w K Q:=by
 unfold Kept Oper.wp execOp
 simp only [hx,Sem.run_bind,hr,Result.andThen_ok,Sem.run_pure]
 exact h
theorem keptM_store_intro (x y:Operand)(p v:Value)(hx:a.eval x=p)(hy:a.eval y=v)(hr:(Instr.storeAt 40 p v).run P w=.ok () w')(h:K (a.put dst undef) w'):Kept P { dst:=dst,op:=.store 40 x y,type:=ty,pos:=pos,after:=after,guard:=gd } a w K Q:=by
 unfold Kept Oper.wp execOp
 simp only [hx,hy,Sem.run_bind,hr,Result.andThen_ok,Sem.run_pure]
 exact h
theorem keptM_box_intro (x:Operand)(v r:Value)(hx:a.eval x=v)(hr:(Instr.box 40 v).run P w=.ok r w')(h:K (a.put dst r) w'):Kept P { dst:=dst,op:=.box 40 x,type:=ty,pos:=pos,after:=after,guard:=gd } a w K Q:=by
 unfold Kept Oper.wp execOp
 simp only [hx,Sem.run_bind,hr,Result.andThen_ok,Sem.run_pure]
 exact h
theorem keptM_alloc_intro (v:Value)(hr:(Instr.alloc 40 true (.tuple #[])).run P w=.ok v w')(h:K (a.put dst v) w'):Kept P { dst:=dst,op:=.alloc 40,type:=ty,pos:=pos,after:=after,guard:=gd } a w K Q:=by
 unfold Kept Oper.wp execOp
 simp only [Sem.run_bind,hr,Result.andThen_ok,Sem.run_pure]
 exact h
theorem keptM_build0_intro (v:Value)(hr:(Instr.build 40 #[]).run P w=.ok v w)(h:K (a.put dst v) w):Kept P { dst:=dst,op:=.build 40 #[],type:=ty,pos:=pos,after:=after,guard:=gd } a w K Q:=by
 unfold Kept Oper.wp execOp
 have e:((#[]:Array (Nat×Operand)).map fun (i,x)=>(i,a.eval x))=#[]:=by simp
 simp only [e,Sem.run_bind,hr,Result.andThen_ok,Sem.run_pure]
 exact h
theorem keptM_build1_intro (i:Nat)(x:Operand)(p v:Value)(hx:a.eval x=p)(hr:(Instr.build 40 #[(i,p)]).run P w=.ok v w)(h:K (a.put dst v) w):Kept P { dst:=dst,op:=.build 40 #[(i,x)],type:=ty,pos:=pos,after:=after,guard:=gd } a w K Q:=by
 unfold Kept Oper.wp execOp
 have e:(#[(i,x)].map fun (i,x)=>(i,a.eval x))=#[(i,p)]:=by simp [hx]
 simp only [e,Sem.run_bind,hr,Result.andThen_ok,Sem.run_pure]
 exact h
end
theorem infoM:(Tryz.prog.info? 40).map (·.size)=some 25:=by kernel_rfl
theorem run_boxM (C:Array Value)(w:World):(Instr.box 40 (.agg C)).run Tryz.prog w=.ok (.pointer (some ⟨w.heap.size,0,none⟩)) (w.alloc (.cells C 40)):=by
 simp [Instr.box,newVar,go_sem,Value.cells]
theorem run_allocM (w:World):(Instr.alloc 40 true (.tuple #[])).run Tryz.prog w=.ok (.pointer (some ⟨w.heap.size,0,none⟩)) (w.alloc (.cells zM 40)):=by kernel_rfl
theorem run_build0M (w:World):(Instr.build 40 #[]).run Tryz.prog w=.ok (.agg zM) w:=by kernel_rfl
theorem run_buildkM (k:Int)(w:World):(Instr.build 40 #[(0,.int .i64 k)]).run Tryz.prog w=.ok (.agg (msgC k 0 0 (.slice none 0 0))) w:=by kernel_rfl
theorem range_of {w:World}{g:Nat}{C:Array Value}{t:TypeId}{f:Nat×Nat} (h:w.heap[g]?=some (.cells C t f)):w.rangeAt g 0 C.toList:=by
 intro j v hv
 unfold World.cell?
 simp only [h]
 rw [Array.getElem?_toList] at hv
 simp [hv]
theorem run_loadM {w:World}{g:Nat}{C:Array Value} (h:w.rangeAt g 0 C.toList) (hC:MC C):(Instr.loadAt 40 (.pointer (some ⟨g,0,none⟩))).run Tryz.prog w=.ok (.agg C) w:=by
 have:=run_loadAt_mid (P:=Tryz.prog) w g 0 40 C.toList _ h Tryz.underlying40 rfl (by rw [infoM]; simp [hC.1])
 simpa using this
theorem there_at {w:World}{g:Nat}{c:Array Value}{t:TypeId} (h:w.heap[g]?=some (.cells c t (0,0))) (n:Nat) (hn:n≤c.size):w.there g 0 n:=fun j hj=>by
 refine ⟨?_,?_⟩
 ·simp only [World.cell?,h,Nat.zero_add]
  rw [Array.getElem?_eq_getElem (by omega)]
  rfl
 ·simp [World.frozen?,h]
theorem run_storeM {w:World}{g:Nat}{C C0:Array Value}{t:TypeId} (h:w.heap[g]?=some (.cells C0 t (0,0))) (h0:C0.size=25) (hC:MC C):(Instr.storeAt 40 (.pointer (some ⟨g,0,none⟩)) (.agg C)).run Tryz.prog w=.ok () (w.setCells g 0 C.toList) :=
 run_storeAt_mid (P:=Tryz.prog) w g 0 40 C (there_at h _ (by rw [hC.1,h0]; omega)) (by rw [infoM,hC.1]) hC.2
theorem infoN:(Tryz.prog.info? 38).map (·.size)=some 3:=by kernel_rfl
theorem res_cells2 {fn:Func}{p q:Tmp}{tM tN:TypeId}{dM dN:TypeDesc} (h:fn.results=#[.cell p tM,.cell q tN]) (tmps:Array Value) (w:World) (gM gN:Nat) (CM CN:Array Value)
  (hp:tmps[p]?=some (.pointer (some ⟨gM,0,none⟩))) (hq:tmps[q]?=some (.pointer (some ⟨gN,0,none⟩))) (rM:w.rangeAt gM 0 CM.toList) (rN:w.rangeAt gN 0 CN.toList)
  (uM:Tryz.prog.underlying tM=some dM) (sM:dM.isRow=true) (iM:(Tryz.prog.info? tM).map (·.size)=some CM.size) (uN:Tryz.prog.underlying tN=some dN) (sN:dN.isRow=true) (iN:(Tryz.prog.info? tN).map (·.size)=some CN.size) :
  (results fn tmps).run Tryz.prog w=.ok (.tuple #[.agg CM,.agg CN]) w:=by
 have l1:=run_loadVar_mid (P:=Tryz.prog) w gM 0 tM CM.toList dM rM uM sM (by simpa using iM)
 have l2:=run_loadVar_mid (P:=Tryz.prog) w gN 0 tN CN.toList dN rN uN sN (by simpa using iN)
 have e1:tmps.getD p undef=.pointer (some ⟨gM,0,none⟩):=by rw [Array.getD_eq_getD_getElem?,hp]; rfl
 have e2:tmps.getD q undef=.pointer (some ⟨gN,0,none⟩):=by rw [Array.getD_eq_getD_getElem?,hq]; rfl
 unfold results
 rw [h]
 simp only [Array.mapM_eq_mapM_toList,List.mapM_cons,List.mapM_nil,e1,e2,asAddr,Sem.run_bind,Sem.run_pure]
 simp [Sem.run_bind,l1,l2]
theorem bx_set {w:World}{g:Nat}{C0 C:Array Value}{t:TypeId} (h:w.heap[g]?=some (.cells C0 t (0,0))) (hs:C.size≤C0.size):(w.setCells g 0 C.toList).rangeAt g 0 C.toList :=
 World.rangeAt_setCells_same w g 0 C.toList (by simpa using there_at h _ hs)
theorem bx_apart {w:World}{g g':Nat}{cs vs:List Value} (h:w.rangeAt g 0 cs) (hne:g≠g'):(w.setCells g' 0 vs).rangeAt g 0 cs:=World.rangeAt_setCells_apart h g' 0 vs (.inl hne)
theorem heap_sets {w:World}{g k:Nat}{vs:List Value} (h:k≠g):(w.setCells g 0 vs).heap[k]?=w.heap[k]?:=by
 by_cases hk:k < w.heap.size
 ·exact (((Keeps.refl (fun x=>x=g) w).setCells g 0 vs (.inl rfl))).block k hk h
 ·have hs:(w.setCells g 0 vs).heap.size=w.heap.size:=by
   have:∀ (vs:List Value) (o:Nat) (w:World),(w.setCells g o vs).heap.size=w.heap.size:=by
    intro vs
    induction vs with
    | nil=>intro o w; rfl
    | cons v r ih=>intro o w; rw [World.setCells,ih]; simp
   exact this vs 0 w
  rw [Array.getElem?_eq_none (by omega),Array.getElem?_eq_none (by omega)]
section
variable {ops:Array Oper}{Q:Exit→Act→World→Prop}{id:Nat}
theorem out_region (b:Act)(w1:World)(gM gN:Nat)(tM:TypeId)(C0 C N0 N:Array Value)(sx sy:Nat)(ox oy:Op)
  (o0:opk ops 0 (some sx) (ox))
  (o1:opk ops 1 (some sy) (oy))
  (o2:opk ops 2 none (.store tM (.tmp 2) (.tmp sx)))
  (o3:opk ops 3 none (.store 38 (.tmp 3) (.tmp sy)))
  (hsz:ops.size=4) (hns:Region.noSelect ops=true)
  (f0:Region.free .any ops #[false,false,false,false] 0=true) (c0:(Region.ready .any ops #[false,false,false,false]).contains 0=true)
  (f1:Region.free .any ops #[true,false,false,false] 1=true) (c1:(Region.ready .any ops #[true,false,false,false]).contains 1=true)
  (r2:Region.ready .any ops #[true,true,false,false]=[2]) (r3:Region.ready .any ops #[true,true,true,false]=[3]) (rE:Region.ready .any ops #[true,true,true,true]=[])
  (hx:∀ ty po af W,Keeps (fun k=>k=gM∨k=gN) w1 W→(execOp b.eval { dst:=some sx,op:=ox,type:=ty,pos:=po,after:=af,guard:=none }).run Tryz.prog W=.ok (.value (.agg C)) W)
  (hy:∀ ty po af W,Keeps (fun k=>k=gM∨k=gN) w1 W→(execOp (b.put (some sx) (.agg C)).eval { dst:=some sy,op:=oy,type:=ty,pos:=po,after:=af,guard:=none }).run Tryz.prog W=.ok (.value (.agg N)) W)
  (h2:b.tmps[2]?=some (.pointer (some ⟨gM,0,none⟩))) (h3:b.tmps[3]?=some (.pointer (some ⟨gN,0,none⟩))) (hsx:sx < b.tmps.size) (hsy:sy < b.tmps.size) (n2:sx≠2∧sy≠2∧sx≠3∧sy≠3∧sx≠sy)
  (bM:w1.heap[gM]?=some (.cells C0 tM (0,0))) (bN:w1.heap[gN]?=some (.cells N0 38 (0,0))) (hne:gN≠gM) (zM:C.size=C0.size) (zN:N.size=N0.size) (iM:(Tryz.prog.info? tM).map (·.size)=some C.size) (iN:(Tryz.prog.info? 38).map (·.size)=some N.size)
  (aM:C.all (·.oneCell')=true) (aN:N.all (·.oneCell')=true)
  (fin:Q .normal ((b.put (some sx) (.agg C)).put (some sy) (.agg N)) ((({ w1 with drawn:=w1.drawn+1 } : World).setCells gM 0 C.toList).setCells gN 0 N.toList)) :
  (Code.region id ops true).wp Tryz.prog Q b w1:=by
 obtain ⟨t0,p0,e0,h0⟩:=o0
 obtain ⟨t1,p1,e1,h1⟩:=o1
 obtain ⟨t2,p2,e2,k2⟩:=o2
 obtain ⟨t3,p3,e3,k3⟩:=o3
 obtain ⟨x2,y2,x3,y3,xy⟩:=n2
 refine wp_region_noPanic ?_
 refine wp_region_held (S:=fun W=>Keeps (fun k=>k=gM∨k=gN) w1 W) (by kernel_rfl) ?_
 rw [hsz]
 have hK:Keeps (fun k=>k=gM∨k=gN) w1 { w1 with drawn:=w1.drawn+1 }:=⟨rfl,rfl,rfl,Nat.le_refl _,fun _ _ _=>rfl⟩
 show wpAnyH Tryz.prog .any ops (NoPanic Q) _ (3+1) #[false,false,false,false] b _
 refine take_slot h0 rfl rfl hns f0 c0 (fun _ _ _ _ h=>h) (fun W hW=>hx t0 p0 e0 W hW) hK ?_
 show wpAnyH Tryz.prog .any ops (NoPanic Q) _ (2+1) #[true,false,false,false] _ _
 refine take_slot h1 rfl rfl hns f1 c1 (fun _ _ _ _ h=>h) (fun W hW=>hy t1 p1 e1 W hW) hK ?_
 show wpAnyH Tryz.prog .any ops (NoPanic Q) _ (1+1) #[true,true,false,false] _ _
 have v2:((b.put (some sx) (.agg C)).put (some sy) (.agg N)).tmps[2]?=some (.pointer (some ⟨gM,0,none⟩)):=by rw [slot_put _ y2,slot_put _ x2]; exact h2
 have v3:((b.put (some sx) (.agg C)).put (some sy) (.agg N)).tmps[3]?=some (.pointer (some ⟨gN,0,none⟩)):=by rw [slot_put _ y3,slot_put _ x3]; exact h3
 have vx:((b.put (some sx) (.agg C)).put (some sy) (.agg N)).tmps[sx]?=some (.agg C):=by rw [slot_put _ (Ne.symm xy)]; exact slot_same _ hsx
 have vy:((b.put (some sx) (.agg C)).put (some sy) (.agg N)).tmps[sy]?=some (.agg N):=slot_same _ (by simp [Act.put]; exact hsy)
 refine wpAnyH_all r2 (by simp) fun i hi=>?_
 obtain rfl:i=2:=by simpa using hi
 refine op_plain k2 rfl ?_
 have bM':({ w1 with drawn:=w1.drawn+1 } : World).heap[gM]?=some (.cells C0 tM (0,0)):=bM
 have bN':(({ w1 with drawn:=w1.drawn+1 } : World).setCells gM 0 C.toList).heap[gN]?=some (.cells N0 38 (0,0)):=by rw [heap_sets hne]; exact bN
 unfold Oper.wp execOp
 simp only [slot_eval v2,slot_eval vx,Sem.run_bind,run_storeAt_mid _ gM 0 tM C (there_at bM' _ (by omega)) iM aM,Result.andThen_ok,Sem.run_pure]
 refine ⟨hK.setCells gM 0 _ (.inl (.inl rfl)),?_⟩
 show wpAnyH Tryz.prog .any ops (NoPanic Q) _ (0+1) #[true,true,true,false] _ _
 refine wpAnyH_all r3 (by simp) fun i hi=>?_
 obtain rfl:i=3:=by simpa using hi
 refine op_plain k3 rfl ?_
 unfold Oper.wp execOp
 have g1:(((b.put (some sx) (.agg C)).put (some sy) (.agg N)).put none undef).eval (.tmp 3)=.pointer (some ⟨gN,0,none⟩):=slot_eval v3
 have g2:(((b.put (some sx) (.agg C)).put (some sy) (.agg N)).put none undef).eval (.tmp sy)=.agg N:=slot_eval vy
 simp only [g1,g2,Sem.run_bind,run_storeAt_mid _ gN 0 38 N (there_at bN' _ (by omega)) iN aN,Result.andThen_ok,Sem.run_pure]
 refine ⟨(hK.setCells gM 0 _ (.inl (.inl rfl))).setCells gN 0 _ (.inl (.inr rfl)),?_⟩
 show wpAnyH Tryz.prog .any ops (NoPanic Q) _ 0 #[true,true,true,true] _ _
 exact wpAnyH_done rE (NoPanic.normal fin) _
end
def BadIs (w w':World)(e:Ending)(c s:Nat)(d:List Nat):Prop:=∃ u,e=.returned (.tuple #[.agg zM,u])∧NoteIs w.heap.size w' u c s d
def dW (w:World):World:=(w.alloc (.cells zM 40)).alloc (.cells #[.int .i64 0,.int .i64 0,.slice none 0 0] 38)
theorem dW_size (w:World):(dW w).heap.size=w.heap.size+1+1:=by unfold dW; simp
theorem dW_below (w:World):Below w.heap.size w (dW w):=((Below.refl _ _).alloc (Nat.le_refl _) _).alloc (by simp) _
theorem dW_M (w:World):(dW w).heap[w.heap.size]?=some (.cells zM 40 (0,0)):=by
 unfold dW World.alloc
 simp only
 rw [Array.getElem?_push_lt (by simp),Array.getElem_push_eq]
theorem dW_N (w:World):(dW w).heap[w.heap.size+1]?=some (.cells #[.int .i64 0,.int .i64 0,.slice none 0 0] 38 (0,0)):=by
 unfold dW World.alloc
 simp only
 have:w.heap.size+1=(w.heap.push (.cells zM 40)).size:=by simp
 rw [this,Array.getElem?_push_size]
theorem head_dW (a:Option Addr)(c:Nat)(bs:List Nat)(w:World)(hl:bs.length≤100000)(hcap:bs.length≤c)(h:BRd w a bs)(hS:SaidM w)(r:Nat×Nat×Nat×List Nat)(hr:headM bs=r) :
  Calls Tryz.prog 23 #[.slice a bs.length c] (dW w) fun e w1=>∃ a9 c9,e=.returned (.tuple #[.int .i64 (r.1:Int),.agg #[.int .i64 (r.2.1:Int),.int .i64 (r.2.2.1:Int),.slice a9 r.2.2.2.length c9]])∧Hid (w1.ownsRow (w.heap.size+2) 5 1 (.slice a9 r.2.2.2.length c9) r.2.2.2.length (bcells r.2.2.2))∧Hid (Below (w.heap.size+2) (dW w) w1):=by
 subst hr
 refine (head_any a c bs (dW w) hl hcap (h.below (dW_below w)) (hS.below (dW_below w))).mono ?_
 rintro e w1 ⟨⟨u,rfl,a9,c9,rfl,ho⟩,hb⟩
 rw [dW_size] at ho hb
 exact ⟨a9,c9,rfl,ho,hb⟩
theorem heap_old {w:World}{o:Obj}{k:Nat} (h:k < w.heap.size):(w.alloc o).heap[k]?=w.heap[k]?:=by
 unfold World.alloc
 simp only
 rw [Array.getElem?_push_lt h,Array.getElem?_eq_getElem h]
theorem own_keep {F:Nat→Prop}{w w':World}{B e size n:Nat}{v:Value}{xs:List Value} (h:w.ownsRow B e size v n xs) (hk:Keeps F w w') (hF:∀ x,B≤x→¬ F x):w'.ownsRow B e size v n xs:=by
 refine ⟨h.1,?_⟩
 rcases h.2 with hh | ⟨g,cap,cur,e1,hg,hc,rest⟩
 ·exact .inl hh
 ·exact .inr ⟨g,cap,cur,e1,hg,by rw [hk.block g (Array.getElem?_eq_some_iff.1 hc).1 (hF g hg)]; exact hc,rest⟩
section
variable {dst:Option Tmp}{ty:TypeId}{pos:String}{after:Array Edge}{ρ:Operand→Value}
theorem run_of_build (w:World):(execOp ρ { dst:=dst,op:=.build 40 #[],type:=ty,pos:=pos,after:=after,guard:=none }).run Tryz.prog w=.ok (.value (.agg zM)) w:=by
 unfold execOp
 have e:((#[]:Array (Nat×Operand)).map fun (i,x)=>(i,ρ x))=#[]:=by simp
 simp only [e,Sem.run_bind,run_build0M,Result.andThen_ok,Sem.run_pure]
theorem run_of_loadN {w:World}{x:Operand}{g:Nat}{c s v:Value} (hx:ρ x=.pointer (some ⟨g,0,none⟩)) (h:w.heap[g]?=some (.cells #[c,s,v] 38 (0,0))):(execOp ρ { dst:=dst,op:=.load 38 x,type:=ty,pos:=pos,after:=after,guard:=none }).run Tryz.prog w=.ok (.value (.agg #[c,s,v])) w:=by
 have hr:=run_loadAt_mid (P:=Tryz.prog) w g 0 38 [c,s,v] _ (range_of h) Tryz.underlying38 rfl infoN
 unfold execOp
 simp only [hx,Sem.run_bind,hr,Result.andThen_ok,Sem.run_pure]
end
section
attribute [local go_sem ↓] keptM_load keptM_store keptM_alloc keptM_build
set_option maxHeartbeats 4000000 in
theorem dec_bad (a:Option Addr)(cp n:Nat)(bs:List Nat)(w:World)(hn:bs.length=n)(hl:bs.length≤100000)(hcap:bs.length≤cp)(h:BRd w a bs)(hS:SaidM w)(k s:Nat)(d:List Nat)(hr:headM bs=(0,k,s,d))(hk:k≠0) :
  Calls Tryz.prog 10 #[.slice a n cp] w fun e w'=>BadIs w w' e k s d∧Below w.heap.size w w':=by
 have KH:=head_dW a cp bs w hl hcap h hS _ hr
 rw [hn] at KH
 have HK:=hide KH
 clear KH h hS hl hcap hr hn
 have hkz:((k:Int) != 0)=true:=by simp; omega
 simp only at HK
 unfold BadIs NoteIs
 generalize d.length=dl at *
 go_enter Tryz.func10,Tryz.ntmps10
 go_wp2_with (refine keptM_alloc_intro _ (run_allocM w) ?_)
 show Calls Tryz.prog 23 #[.slice a n cp] (dW w) _
 with_reducible refine HK.out.mono ?_
 rintro e w1 ⟨a9,c9,rfl,HO,HB⟩
 have HMb:Hid (w1.heap[w.heap.size]?=some (.cells zM 40 (0,0))):=by show _=_; rw [HB.out.block _ (by omega)]; exact dW_M w
 have HNb:Hid (w1.heap[w.heap.size+1]?=some (.cells #[.int .i64 0,.int .i64 0,.slice none 0 0] 38 (0,0))):=by show _=_; rw [HB.out.block _ (by omega)]; exact dW_N w
 have hsz:w.heap.size+1+1≤w1.heap.size:=by have:=HB.out.size; rw [dW_size] at this; exact this
 have HBW:Hid (Below w.heap.size w w1):=(dW_below w).trans (HB.out.mono (by omega))
 go_wp2_with fail
 have HMb2:Hid ((w1.alloc (.cells #[.int .i64 (k:Int),.int .i64 (s:Int),.slice a9 dl c9] 38)).heap[w.heap.size]?=some (.cells zM 40 (0,0))):=by
  show _=_; rw [heap_old (by omega)]; exact HMb.out
 have HNb2:Hid ((w1.alloc (.cells #[.int .i64 (k:Int),.int .i64 (s:Int),.slice a9 dl c9] 38)).heap[w.heap.size+1]?=some (.cells #[.int .i64 0,.int .i64 0,.slice none 0 0] 38 (0,0))):=by
  show _=_; rw [heap_old (by omega)]; exact HNb.out
 have HXb:Hid ((w1.alloc (.cells #[.int .i64 (k:Int),.int .i64 (s:Int),.slice a9 dl c9] 38)).heap[w1.heap.size]?=some (.cells #[.int .i64 (k:Int),.int .i64 (s:Int),.slice a9 dl c9] 38 (0,0))):=heap_alloc_new w1 _
 have HOW:Hid ((w1.alloc (.cells #[.int .i64 (k:Int),.int .i64 (s:Int),.slice a9 dl c9] 38)).ownsRow (w.heap.size+2) 5 1 (.slice a9 dl c9) dl (bcells d)):=HO.out.alloc _
 have HBW2:Hid (Below w.heap.size w (w1.alloc (.cells #[.int .i64 (k:Int),.int .i64 (s:Int),.slice a9 dl c9] 38))):=HBW.out.alloc (by omega) _
 have hz9:(w1.alloc (.cells #[.int .i64 (k:Int),.int .i64 (s:Int),.slice a9 dl c9] 38)).heap.size=w1.heap.size+1:=by simp
 have HZ:=hide hz9
 clear hz9
 generalize (w1.alloc (.cells #[.int .i64 (k:Int),.int .i64 (s:Int),.slice a9 dl c9] 38))=W at *
 refine out_region _ W w.heap.size (w.heap.size+1) 40 zM zM #[.int .i64 0,.int .i64 0,.slice none 0 0] #[.int .i64 (k:Int),.int .i64 (s:Int),.slice a9 dl c9] 16 17 _ _ (opi rfl) (opi rfl) (opi rfl) (opi rfl) rfl (by kernel_rfl) (by kernel_rfl) (by kernel_rfl) (by kernel_rfl) (by kernel_rfl) (by kernel_rfl) (by kernel_rfl) (by kernel_rfl)
  (fun ty po af W' _=>run_of_build W') (fun ty po af W' hW=>run_of_loadN (by rfl) (by
   show W'.heap[w1.heap.size]?=_
   rw [hW.block _ (by rw [HZ.out]; omega) (by omega)]; exact HXb.out)) rfl rfl (show 16 < 75 by decide) (show 17 < 75 by decide) (by decide) HMb2.out HNb2.out (by omega) rfl rfl infoM infoN MC.zero.2 (by simp [Value.oneCell']) ?_
 simp only [Act.put,List.setIfInBounds_toArray,List.set_cons_zero,List.set_cons_succ]
 have HRM:Hid (((({ W with drawn:=W.drawn+1 } : World).setCells w.heap.size 0 zM.toList).setCells (w.heap.size+1) 0 (#[Value.int .i64 (k:Int),.int .i64 (s:Int),.slice a9 dl c9]:Array Value).toList).rangeAt w.heap.size 0 zM.toList):=bx_apart (bx_set (w:={ W with drawn:=W.drawn+1 }) HMb2.out (Nat.le_refl _)) (by omega)
 have HRN:Hid (((({ W with drawn:=W.drawn+1 } : World).setCells w.heap.size 0 zM.toList).setCells (w.heap.size+1) 0 (#[Value.int .i64 (k:Int),.int .i64 (s:Int),.slice a9 dl c9]:Array Value).toList).rangeAt (w.heap.size+1) 0 (#[Value.int .i64 (k:Int),.int .i64 (s:Int),.slice a9 dl c9]:Array Value).toList) :=
  bx_set (C0:=#[.int .i64 0,.int .i64 0,.slice none 0 0]) (t:=38) (by rw [heap_sets (by omega)]; exact HNb2.out) (by simp)
 have HKe:Hid (Keeps (fun x=>x=w.heap.size∨x=w.heap.size+1) W ((({ W with drawn:=W.drawn+1 } : World).setCells w.heap.size 0 zM.toList).setCells (w.heap.size+1) 0 (#[Value.int .i64 (k:Int),.int .i64 (s:Int),.slice a9 dl c9]:Array Value).toList)) :=
  (Keeps.setCells (w:=W) (w1:={ W with drawn:=W.drawn+1 }) ⟨rfl,rfl,rfl,Nat.le_refl _,fun _ _ _=>rfl⟩ _ 0 _ (.inl (.inl rfl))).setCells _ 0 _ (.inl (.inr rfl))
 generalize ((({ W with drawn:=W.drawn+1 } : World).setCells w.heap.size 0 zM.toList).setCells (w.heap.size+1) 0 (#[Value.int .i64 (k:Int),.int .i64 (s:Int),.slice a9 dl c9]:Array Value).toList)=W9 at *
 go_wp2_with fail
 refine bodyPost_ret (v:=.tuple #[.agg zM,.agg #[.int .i64 (k:Int),.int .i64 (s:Int),.slice a9 dl c9]]) (res_cells2 Tryz.results10 _ W9 w.heap.size (w.heap.size+1) zM _ rfl rfl HRM.out HRN.out Tryz.underlying40 rfl infoM Tryz.underlying38 rfl infoN) rfl ⟨⟨_,rfl,a9,c9,rfl,?_⟩,?_⟩
 ·exact own_low (own_keep HOW.out HKe.out (by omega)) (by omega)
 ·exact HBW2.out.trans (HKe.out.below _ (by rw [HZ.out]; omega) (fun x e=>by omega))
end
theorem shape_set {g:Nat}{t:TypeId}{f:Nat×Nat} : ∀ (vs:List Value) (o:Nat) (w:World) (C0:Array Value),w.heap[g]?=some (.cells C0 t f)→∃ C',(w.setCells g o vs).heap[g]?=some (.cells C' t f)∧C'.size=C0.size
 | [],o,w,C0,h=>⟨C0,h,rfl⟩
 | v :: r,o,w,C0,h=>by
  rw [World.setCells]
  have h1:(w.setCell ⟨g,o,none⟩ v).heap[g]?=some (.cells (C0.setIfInBounds o v) t f):=by
   unfold World.setCell
   simp only [Array.getElem?_modify,if_true,h,Option.map_some]
   rfl
  obtain ⟨C',h2,h3⟩:=shape_set r (o+1) _ _ h1
  exact ⟨C',h2,by rw [h3]; simp⟩
theorem bx_put {w:World}{g:Nat}{C0 C:Array Value}{t:TypeId} (h:w.heap[g]?=some (.cells C0 t (0,0))) (hs:C.size=C0.size):(w.setCells g 0 C.toList).heap[g]?=some (.cells C t (0,0)):=by
 obtain ⟨C',h2,h3⟩:=shape_set C.toList 0 w C0 h
 have hr:=bx_set (C:=C) h (by omega)
 have:C'=C:=by
  apply Array.ext_getElem?
  intro j
  by_cases hj:j < C.size
  ·have h5:=hr j C[j] (by rw [Array.getElem?_toList,Array.getElem?_eq_getElem hj])
   unfold World.cell? at h5
   simp only [h2,Nat.zero_add] at h5
   rw [Array.getElem?_eq_getElem hj]
   simpa using h5
  ·rw [Array.getElem?_eq_none (by omega),Array.getElem?_eq_none (by omega)]
 rw [h2,this]
section
variable {ops:Array Oper}{Q:Exit→Act→World→Prop}{id:Nat}
set_option maxHeartbeats 1600000 in
/-- 'm, body := api.Msg{Kind: int(b[18])}, b[19:]'. -/
theorem m_region (b:Act)(w1:World)(g o n c kd:Nat)
  (o0:opk ops 0 (some 29) (.move (.tmp 0)))
  (o1:opk ops 1 (some 30) (.indexAddr 22 (.tmp 29) (.const (.int .i64 18))))
  (o2:opk ops 2 (some 31) (.load 5 (.tmp 30)))
  (o3:opk ops 3 (some 32) (.convert 5 3 (.tmp 31)))
  (o4:opk ops 4 (some 33) (.build 40 #[(0,.tmp 32)]))
  (o5:opk ops 5 (some 34) (.move (.tmp 0)))
  (o6:opk ops 6 (some 35) (.slice 22 (.tmp 34) (some (.const (.int .i64 19))) none none))
  (o7:opk ops 7 (some 6) (.alloc 40))
  (o8:opk ops 8 none (.store 40 (.tmp 6) (.tmp 33)))
  (o9:opk ops 9 (some 7) (.assign (.tmp 35)))
  (hsz:ops.size=10) (hns:Region.noSelect ops=true)
  (t0:tk ops #[false,false,false,false,false,false,false,false,false,false] 0=true)
  (t1:tk ops #[true,false,false,false,false,false,false,false,false,false] 1=true)
  (t2:tk ops #[true,true,false,false,false,false,false,false,false,false] 2=true)
  (t3:tk ops #[true,true,true,false,false,false,false,false,false,false] 3=true)
  (t4:tk ops #[true,true,true,true,false,false,false,false,false,false] 4=true)
  (t5:tk ops #[true,true,true,true,true,false,false,false,false,false] 5=true)
  (t6:tk ops #[true,true,true,true,true,true,false,false,false,false] 6=true)
  (r7:Region.ready .any ops #[true,true,true,true,true,true,true,false,false,false]=[7]) (r8:Region.ready .any ops #[true,true,true,true,true,true,true,true,false,false]=[8])
  (r9:Region.ready .any ops #[true,true,true,true,true,true,true,true,true,false]=[9]) (rE:Region.ready .any ops #[true,true,true,true,true,true,true,true,true,true]=[])
  (hb:b.tmps.size=75) (h0:b.tmps[0]?=some (.slice (some ⟨g,o,none⟩) n c)) (hn:19≤n) (hl:n≤100000) (hkd:kd < 256) (h18:w1.cell? ⟨g,o+18,none⟩=some (.int .u8 (kd:Int)))
  (fin:∀ a W6,Fr [29,30,31,32,33,34,35,6,7] b a→a.tmps[6]?=some (.pointer (some ⟨w1.heap.size,0,none⟩))→a.tmps[7]?=some (.slice (if c=19 then some ⟨g,o,none⟩ else some ⟨g,o+19,none⟩) (n - 19) (c - 19))→W6.heap[w1.heap.size]?=some (.cells (msgC (kd:Int) 0 0 (.slice none 0 0)) 40 (0,0))→Below w1.heap.size w1 W6→Q .normal a W6) :
  (Code.region id ops true).wp Tryz.prog Q b w1:=by
 obtain ⟨a0,p0,e0,h0'⟩:=o0
 obtain ⟨a1,p1,e1,h1'⟩:=o1
 obtain ⟨a2,p2,e2,h2'⟩:=o2
 obtain ⟨a3,p3,e3,h3'⟩:=o3
 obtain ⟨a4,p4,e4,h4'⟩:=o4
 obtain ⟨a5,p5,e5,h5'⟩:=o5
 obtain ⟨a6,p6,e6,h6'⟩:=o6
 obtain ⟨a7,p7,e7,h7'⟩:=o7
 obtain ⟨a8,p8,e8,h8'⟩:=o8
 obtain ⟨a9,p9,e9,h9'⟩:=o9
 have hg:=World.block_lt_of_cell? w1 _ h18
 simp only at hg
 have hn18:(18:Int) < (n:Int):=by omega
 refine wp_region_noPanic ?_
 refine wp_region_held (S:=fun W=>Below w1.heap.size w1 W) (by kernel_rfl) ?_
 rw [hsz]
 have hdr:Below w1.heap.size w1 { w1 with drawn:=w1.drawn+1 }:=(Below.refl _ w1).drew
 obtain ⟨X7,hX7⟩:∃ X7,X7=({ w1 with drawn:=w1.drawn+1 } : World).alloc (.cells zM 40):=⟨_,rfl⟩
 have hb7:Below w1.heap.size w1 X7:=by rw [hX7]; exact hdr.alloc (Nat.le_refl _) _
 have bx:X7.heap[w1.heap.size]?=some (.cells zM 40 (0,0)):=by rw [hX7]; exact heap_alloc_new ({ w1 with drawn:=w1.drawn+1 } : World) _
 have f0:Fr [29,30,31,32,33,34,35,6,7] b b:=Fr.refl _ _
 show wpAnyH Tryz.prog .any ops (NoPanic Q) _ (9+1) #[false,false,false,false,false,false,false,false,false,false] _ _
 refine take_slot h0' rfl rfl hns (tk1 t0) (tk2 t0) (v:=(.slice (some ⟨g,o,none⟩) n c)) (fun _ _ _ _ h=>h) (fun W _=>op_move _ W _ _ _ rfl (slot_eval (f0.slot (by decide) h0))) hdr ?_
 obtain ⟨A1,hA1⟩:∃ Z,Z=b.put (some 29) (.slice (some ⟨g,o,none⟩) n c):=⟨_,rfl⟩
 rw [← hA1]
 have f1:Fr [29,30,31,32,33,34,35,6,7] b A1:=by rw [hA1]; exact f0.put (by decide) _
 have g1_29:A1.tmps[29]?=some (.slice (some ⟨g,o,none⟩) n c):=by rw [hA1]; exact slot_same _ (by rw [f0.size,hb]; decide)
 clear hA1
 show wpAnyH Tryz.prog .any ops (NoPanic Q) _ (8+1) #[true,false,false,false,false,false,false,false,false,false] _ _
 refine take_slot h1' rfl rfl hns (tk1 t1) (tk2 t1) (v:=(.pointer (some ⟨g,o+18,none⟩))) (fun _ _ _ _ h=>h) (fun W _=>by
  have q:=slot_eval g1_29
  unfold execOp
  simp only [q]
  simp [go_sem,hn18]) hdr ?_
 obtain ⟨A2,hA2⟩:∃ Z,Z=A1.put (some 30) (.pointer (some ⟨g,o+18,none⟩)):=⟨_,rfl⟩
 rw [← hA2]
 have f2:Fr [29,30,31,32,33,34,35,6,7] b A2:=by rw [hA2]; exact f1.put (by decide) _
 have g2_29:A2.tmps[29]?=some (.slice (some ⟨g,o,none⟩) n c):=by rw [hA2,slot_put _ (by decide)]; exact g1_29
 have g2_30:A2.tmps[30]?=some (.pointer (some ⟨g,o+18,none⟩)):=by rw [hA2]; exact slot_same _ (by rw [f1.size,hb]; decide)
 clear hA2
 clear g2_29
 show wpAnyH Tryz.prog .any ops (NoPanic Q) _ (7+1) #[true,true,false,false,false,false,false,false,false,false] _ _
 refine take_slot h2' rfl rfl hns (tk1 t2) (tk2 t2) (v:=(.int .u8 (kd:Int))) (fun _ _ _ _ h=>h) (fun W hW=>by
  have q:=slot_eval g2_30
  have q2:W.cell? ⟨g,o+18,none⟩=some (.int .u8 (kd:Int)):=by rw [hW.cell (p:=⟨g,o+18,none⟩) hg]; exact h18
  unfold execOp
  simp only [q]
  simp [go_sem,q2]) hdr ?_
 obtain ⟨A3,hA3⟩:∃ Z,Z=A2.put (some 31) (.int .u8 (kd:Int)):=⟨_,rfl⟩
 rw [← hA3]
 have f3:Fr [29,30,31,32,33,34,35,6,7] b A3:=by rw [hA3]; exact f2.put (by decide) _
 have g3_30:A3.tmps[30]?=some (.pointer (some ⟨g,o+18,none⟩)):=by rw [hA3,slot_put _ (by decide)]; exact g2_30
 have g3_31:A3.tmps[31]?=some (.int .u8 (kd:Int)):=by rw [hA3]; exact slot_same _ (by rw [f2.size,hb]; decide)
 clear hA3
 clear g3_30
 show wpAnyH Tryz.prog .any ops (NoPanic Q) _ (6+1) #[true,true,true,false,false,false,false,false,false,false] _ _
 refine take_slot h3' rfl rfl hns (tk1 t3) (tk2 t3) (v:=(.int .i64 (kd:Int))) (fun _ _ _ _ h=>h) (fun W _=>by
  have q:=slot_eval g3_31
  unfold execOp
  simp only [q]
  simp [go_sem]
  rw [IntKind.wrap_i64]
  omega) hdr ?_
 obtain ⟨A4,hA4⟩:∃ Z,Z=A3.put (some 32) (.int .i64 (kd:Int)):=⟨_,rfl⟩
 rw [← hA4]
 have f4:Fr [29,30,31,32,33,34,35,6,7] b A4:=by rw [hA4]; exact f3.put (by decide) _
 have g4_31:A4.tmps[31]?=some (.int .u8 (kd:Int)):=by rw [hA4,slot_put _ (by decide)]; exact g3_31
 have g4_32:A4.tmps[32]?=some (.int .i64 (kd:Int)):=by rw [hA4]; exact slot_same _ (by rw [f3.size,hb]; decide)
 clear hA4
 clear g4_31
 show wpAnyH Tryz.prog .any ops (NoPanic Q) _ (5+1) #[true,true,true,true,false,false,false,false,false,false] _ _
 refine take_slot h4' rfl rfl hns (tk1 t4) (tk2 t4) (v:=(.agg (msgC (kd:Int) 0 0 (.slice none 0 0)))) (fun _ _ _ _ h=>h) (fun W _=>by
  have q:=slot_eval g4_32
  unfold execOp
  have e:(#[((0:Nat),Operand.tmp 32)].map fun (i,x)=>(i,A4.eval x))=#[(0,.int .i64 (kd:Int))]:=by simp [q]
  simp only [e,Sem.run_bind,run_buildkM,Result.andThen_ok,Sem.run_pure]) hdr ?_
 obtain ⟨A5,hA5⟩:∃ Z,Z=A4.put (some 33) (.agg (msgC (kd:Int) 0 0 (.slice none 0 0))):=⟨_,rfl⟩
 rw [← hA5]
 have f5:Fr [29,30,31,32,33,34,35,6,7] b A5:=by rw [hA5]; exact f4.put (by decide) _
 have g5_32:A5.tmps[32]?=some (.int .i64 (kd:Int)):=by rw [hA5,slot_put _ (by decide)]; exact g4_32
 have g5_33:A5.tmps[33]?=some (.agg (msgC (kd:Int) 0 0 (.slice none 0 0))):=by rw [hA5]; exact slot_same _ (by rw [f4.size,hb]; decide)
 clear hA5
 clear g5_32
 show wpAnyH Tryz.prog .any ops (NoPanic Q) _ (4+1) #[true,true,true,true,true,false,false,false,false,false] _ _
 refine take_slot h5' rfl rfl hns (tk1 t5) (tk2 t5) (v:=(.slice (some ⟨g,o,none⟩) n c)) (fun _ _ _ _ h=>h) (fun W _=>op_move _ W _ _ _ rfl (slot_eval (f5.slot (by decide) h0))) hdr ?_
 obtain ⟨A6,hA6⟩:∃ Z,Z=A5.put (some 34) (.slice (some ⟨g,o,none⟩) n c):=⟨_,rfl⟩
 rw [← hA6]
 have f6:Fr [29,30,31,32,33,34,35,6,7] b A6:=by rw [hA6]; exact f5.put (by decide) _
 have g6_33:A6.tmps[33]?=some (.agg (msgC (kd:Int) 0 0 (.slice none 0 0))):=by rw [hA6,slot_put _ (by decide)]; exact g5_33
 have g6_34:A6.tmps[34]?=some (.slice (some ⟨g,o,none⟩) n c):=by rw [hA6]; exact slot_same _ (by rw [f5.size,hb]; decide)
 clear hA6
 show wpAnyH Tryz.prog .any ops (NoPanic Q) _ (3+1) #[true,true,true,true,true,true,false,false,false,false] _ _
 refine take_slot h6' rfl rfl hns (tk1 t6) (tk2 t6) (v:=(.slice (if c=19 then some ⟨g,o,none⟩ else some ⟨g,o+19,none⟩) (n - 19) (c - 19))) (fun _ _ _ _ h=>h) (fun W _=>by
  have q:=slot_eval g6_34
  unfold execOp
  simp only [q]
  by_cases hc19:c=19
  ·simp [go_sem,hc19]
   omega
  ·simp [go_sem,hc19]
   omega) hdr ?_
 obtain ⟨A7,hA7⟩:∃ Z,Z=A6.put (some 35) (.slice (if c=19 then some ⟨g,o,none⟩ else some ⟨g,o+19,none⟩) (n - 19) (c - 19)):=⟨_,rfl⟩
 rw [← hA7]
 have f7:Fr [29,30,31,32,33,34,35,6,7] b A7:=by rw [hA7]; exact f6.put (by decide) _
 have g7_33:A7.tmps[33]?=some (.agg (msgC (kd:Int) 0 0 (.slice none 0 0))):=by rw [hA7,slot_put _ (by decide)]; exact g6_33
 have g7_34:A7.tmps[34]?=some (.slice (some ⟨g,o,none⟩) n c):=by rw [hA7,slot_put _ (by decide)]; exact g6_34
 have g7_35:A7.tmps[35]?=some (.slice (if c=19 then some ⟨g,o,none⟩ else some ⟨g,o+19,none⟩) (n - 19) (c - 19)):=by rw [hA7]; exact slot_same _ (by rw [f6.size,hb]; decide)
 clear hA7
 clear g7_34
 show wpAnyH Tryz.prog .any ops (NoPanic Q) _ (2+1) #[true,true,true,true,true,true,true,false,false,false] _ _
 refine wpAnyH_all r7 (by simp) fun i hi=>?_
 obtain rfl:i=7:=by simpa using hi
 refine op_plain h7' rfl (wp_of_run' (w':=X7) (v:=.pointer (some ⟨w1.heap.size,0,none⟩)) (by
  unfold execOp
  simp only [Sem.run_bind,run_allocM,Result.andThen_ok,Sem.run_pure]
  rw [hX7]) ?_)
 refine ⟨hb7,?_⟩
 show wpAnyH Tryz.prog .any ops (NoPanic Q) _ 2 #[true,true,true,true,true,true,true,true,false,false] (A7.put (some 6) (.pointer (some ⟨w1.heap.size,0,none⟩))) _
 obtain ⟨A8,hA8⟩:∃ Z,Z=A7.put (some 6) (.pointer (some ⟨w1.heap.size,0,none⟩)):=⟨_,rfl⟩
 rw [← hA8]
 have f8:Fr [29,30,31,32,33,34,35,6,7] b A8:=by rw [hA8]; exact f7.put (by decide) _
 have g8_33:A8.tmps[33]?=some (.agg (msgC (kd:Int) 0 0 (.slice none 0 0))):=by rw [hA8,slot_put _ (by decide)]; exact g7_33
 have g8_35:A8.tmps[35]?=some (.slice (if c=19 then some ⟨g,o,none⟩ else some ⟨g,o+19,none⟩) (n - 19) (c - 19)):=by rw [hA8,slot_put _ (by decide)]; exact g7_35
 have g8_6:A8.tmps[6]?=some (.pointer (some ⟨w1.heap.size,0,none⟩)):=by rw [hA8]; exact slot_same _ (by rw [f7.size,hb]; decide)
 clear hA8
 show wpAnyH Tryz.prog .any ops (NoPanic Q) _ (1+1) #[true,true,true,true,true,true,true,true,false,false] _ _
 refine wpAnyH_all r8 (by simp) fun i hi=>?_
 obtain rfl:i=8:=by simpa using hi
 refine op_plain h8' rfl ?_
 unfold Oper.wp execOp
 simp only [slot_eval g8_6,slot_eval g8_33,Sem.run_bind,run_storeM bx rfl (MC.msg (kd:Int) 0 0 none 0 0),Result.andThen_ok,Sem.run_pure]
 have hb8:Below w1.heap.size w1 (X7.setCells w1.heap.size 0 (msgC (kd:Int) 0 0 (.slice none 0 0)).toList):=hb7.trans (((Keeps.refl (fun x=>x=w1.heap.size) _).setCells w1.heap.size 0 _ (.inl rfl)).below w1.heap.size hb7.size (fun x e=>by omega))
 refine ⟨hb8,?_⟩
 show wpAnyH Tryz.prog .any ops (NoPanic Q) _ 1 #[true,true,true,true,true,true,true,true,true,false] A8 _
 show wpAnyH Tryz.prog .any ops (NoPanic Q) _ (0+1) #[true,true,true,true,true,true,true,true,true,false] _ _
 refine wpAnyH_all r9 (by simp) fun i hi=>?_
 obtain rfl:i=9:=by simpa using hi
 refine op_plain h9' rfl (wp_of_run' (v:=(.slice (if c=19 then some ⟨g,o,none⟩ else some ⟨g,o+19,none⟩) (n - 19) (c - 19))) (by
  have q:=slot_eval g8_35
  unfold execOp
  simp only [q,Sem.run_pure]
  rfl) ?_)
 refine ⟨hb8,?_⟩
 show wpAnyH Tryz.prog .any ops (NoPanic Q) _ 0 #[true,true,true,true,true,true,true,true,true,true] (A8.put (some 7) (.slice (if c=19 then some ⟨g,o,none⟩ else some ⟨g,o+19,none⟩) (n - 19) (c - 19))) _
 obtain ⟨A9,hA9⟩:∃ Z,Z=A8.put (some 7) (.slice (if c=19 then some ⟨g,o,none⟩ else some ⟨g,o+19,none⟩) (n - 19) (c - 19)):=⟨_,rfl⟩
 rw [← hA9]
 have f9:Fr [29,30,31,32,33,34,35,6,7] b A9:=by rw [hA9]; exact f8.put (by decide) _
 have g9_33:A9.tmps[33]?=some (.agg (msgC (kd:Int) 0 0 (.slice none 0 0))):=by rw [hA9,slot_put _ (by decide)]; exact g8_33
 have g9_35:A9.tmps[35]?=some (.slice (if c=19 then some ⟨g,o,none⟩ else some ⟨g,o+19,none⟩) (n - 19) (c - 19)):=by rw [hA9,slot_put _ (by decide)]; exact g8_35
 have g9_6:A9.tmps[6]?=some (.pointer (some ⟨w1.heap.size,0,none⟩)):=by rw [hA9,slot_put _ (by decide)]; exact g8_6
 have g9_7:A9.tmps[7]?=some (.slice (if c=19 then some ⟨g,o,none⟩ else some ⟨g,o+19,none⟩) (n - 19) (c - 19)):=by rw [hA9]; exact slot_same _ (by rw [f8.size,hb]; decide)
 clear hA9
 exact wpAnyH_done rE (NoPanic.normal (fin _ _ f9 g9_6 g9_7 (bx_put bx rfl) hb8)) _
end
theorem Fr.lay9m {t0 t1 t2 t3 t4 t5 t6 t7 t8:Nat}{b a:Act} (h:Fr [t0,t1,t2,t3,t4,t5,t6,t7,t8] b a) (hsz:∀ s∈[t0,t1,t2,t3,t4,t5,t6,t7,t8],s < b.tmps.size) {v7 v8:Value} (h7:a.tmps[t7]?=some v7) (h8:a.tmps[t8]?=some v8) :
  ∃ x0 x1 x2 x3 x4 x5 x6,a=((((((((b.put (some t0) x0).put (some t1) x1).put (some t2) x2).put (some t3) x3).put (some t4) x4).put (some t5) x5).put (some t6) x6).put (some t7) v7).put (some t8) v8:=by
 have get:∀ t,t∈[t0,t1,t2,t3,t4,t5,t6,t7,t8]→∃ x,a.tmps[t]?=some x:=fun t ht=>⟨_,Array.getElem?_eq_getElem (by rw [h.size]; exact hsz t ht)⟩
 obtain ⟨x0,h0⟩:=get t0 (by simp)
 obtain ⟨x1,h1⟩:=get t1 (by simp)
 obtain ⟨x2,h2⟩:=get t2 (by simp)
 obtain ⟨x3,h3⟩:=get t3 (by simp)
 obtain ⟨x4,h4⟩:=get t4 (by simp)
 obtain ⟨x5,h5⟩:=get t5 (by simp)
 obtain ⟨x6,h6⟩:=get t6 (by simp)
 refine ⟨x0,x1,x2,x3,x4,x5,x6,Fr.eq (b:=b) (l:=[(t0,x0),(t1,x1),(t2,x2),(t3,x3),(t4,x4),(t5,x5),(t6,x6),(t7,v7),(t8,v8)]) (c:=b) rfl h.defers h.size h.out fun p hp=>?_⟩
 simp only [List.mem_cons,List.not_mem_nil,or_false] at hp
 rcases hp with rfl | rfl | rfl | rfl | rfl | rfl | rfl | rfl | rfl <;> assumption
section
variable {dst:Option Tmp}{ty:TypeId}{pos:String}{after:Array Edge}{ρ:Operand→Value}
theorem run_of_loadM {w:World}{x:Operand}{g:Nat}{C:Array Value} (hC:MC C) (hx:ρ x=.pointer (some ⟨g,0,none⟩)) (h:w.rangeAt g 0 C.toList):(execOp ρ { dst:=dst,op:=.load 40 x,type:=ty,pos:=pos,after:=after,guard:=none }).run Tryz.prog w=.ok (.value (.agg C)) w:=by
 unfold execOp
 simp only [hx,Sem.run_bind,run_loadM h hC,Result.andThen_ok,Sem.run_pure]
end
structure D6 (w W:World) (X Y:Nat) (C:Array Value) (v:Value):Prop where
 bM:W.heap[w.heap.size]?=some (.cells zM 40 (0,0))
 bN:W.heap[w.heap.size+1]?=some (.cells #[.int .i64 0,.int .i64 0,.slice none 0 0] 38 (0,0))
 bX:W.heap[X]?=some (.cells #[.int .i64 0,.int .i64 0,v] 38 (0,0))
 bY:W.heap[Y]?=some (.cells C 40 (0,0))
 hX:w.heap.size+2≤X
 hY:X < Y
 hs:Y < W.heap.size
 bel:Below w.heap.size w W
structure H6 (w w1 W:World) (g o:Nat) (kd:Int) (v:Value):Prop where
 bM:W.heap[w.heap.size]?=some (.cells zM 40 (0,0))
 bN:W.heap[w.heap.size+1]?=some (.cells #[.int .i64 0,.int .i64 0,.slice none 0 0] 38 (0,0))
 bX:W.heap[w1.heap.size]?=some (.cells #[.int .i64 0,.int .i64 0,v] 38 (0,0))
 bel:Below w.heap.size w W
 sz:W.heap.size=w1.heap.size+1
 le:w.heap.size+1+1≤w1.heap.size
 c18:W.cell? ⟨g,o+18,none⟩=some (.int .u8 kd)
theorem h6_of {w w1:World}{g o:Nat}{kd:Int} (a:Option Addr) (n c:Nat) (hb:Below (w.heap.size+2) (dW w) w1) (zg:g < w.heap.size) (c18:w.cell? ⟨g,o+18,none⟩=some (.int .u8 kd)):H6 w w1 (w1.alloc (.cells #[.int .i64 0,.int .i64 0,.slice a n c] 38)) g o kd (.slice a n c):=by
 have hs:w.heap.size+1+1≤w1.heap.size:=by have:=hb.size; rw [dW_size] at this; exact this
 have hbw:Below w.heap.size w w1:=(dW_below w).trans (hb.mono (by omega))
 have hbw2:Below w.heap.size w (w1.alloc (.cells #[.int .i64 0,.int .i64 0,.slice a n c] 38)):=hbw.alloc (by omega) _
 refine ⟨?_,?_,heap_alloc_new w1 _,hbw2,by simp,hs,?_⟩
 ·rw [heap_old (by omega),hb.block _ (by omega)]; exact dW_M w
 ·rw [heap_old (by omega),hb.block _ (by omega)]; exact dW_N w
 ·rw [hbw2.cell (p:=⟨g,o+18,none⟩) zg]; exact c18
theorem H6.d6 {w w1 W W6:World}{g o:Nat}{kd:Int}{v:Value}{C:Array Value} (h:H6 w w1 W g o kd v) (bY:W6.heap[W.heap.size]?=some (.cells C 40 (0,0))) (hb:Below W.heap.size W W6):D6 w W6 w1.heap.size W.heap.size C v:=by
 have z:=h.sz
 have z2:=h.le
 refine ⟨?_,?_,?_,bY,by omega,by omega,(Array.getElem?_eq_some_iff.1 bY).1,h.bel.trans (hb.mono (by omega))⟩
 ·rw [hb.block _ (by omega)]; exact h.bM
 ·rw [hb.block _ (by omega)]; exact h.bN
 ·rw [hb.block _ (by omega)]; exact h.bX
section
attribute [local go_sem ↓] keptM_load keptM_store keptM_alloc keptM_build
set_option maxHeartbeats 4000000 in
theorem dec_alive (g o cp:Nat)(bs:List Nat)(w:World)(hn:bs.length=19)(hcap:19≤cp)(h:BRd w (some ⟨g,o,none⟩) bs)(hS:SaidM w)(hr:headM bs=(19,0,0,[]))(hk4:bs.getD 18 0=4) :
  Calls Tryz.prog 10 #[.slice (some ⟨g,o,none⟩) 19 cp] w fun e w'=>∃ a9 c9,e=.returned (.tuple #[.agg (msgC 4 0 0 (.slice none 0 0)),.agg #[.int .i64 0,.int .i64 0,.slice a9 0 c9]])∧Below w.heap.size w w':=by
 have KH:=head_dW (some ⟨g,o,none⟩) cp bs w (by omega) (by omega) h hS _ hr
 rw [hn] at KH
 have HK:=hide KH
 obtain ⟨g',o',e9,hc⟩:=h.1.2 (by omega)
 cases e9
 have c18:w.cell? ⟨g,o+18,none⟩=some (.int .u8 4):=by rw [hc 18 (by omega)]; show some (Value.int .u8 ((bs.getD 18 0:Nat):Int))=_; rw [hk4]; rfl
 have zg:=World.block_lt_of_cell? w _ c18
 simp only at zg
 clear KH h hS hcap hr hn hk4 hc
 simp only at HK
 go_enter Tryz.func10,Tryz.ntmps10
 go_wp2_with (refine keptM_alloc_intro _ (run_allocM w) ?_)
 show Calls Tryz.prog 23 #[.slice (some ⟨g,o,none⟩) 19 cp] (dW w) _
 with_reducible refine HK.out.mono ?_
 rintro e w1 ⟨a9,c9,rfl,HO,HB⟩
 have HH:=hide (h6_of a9 0 c9 HB.out zg c18)
 go_wp2_with fail
 generalize (w1.alloc (.cells #[.int .i64 0,.int .i64 0,.slice a9 0 c9] 38))=W at *
 refine m_region _ W g o 19 cp 4 (opi rfl) (opi rfl) (opi rfl) (opi rfl) (opi rfl) (opi rfl) (opi rfl) (opi rfl) (opi rfl) (opi rfl) rfl (by kernel_rfl)
  (by kernel_rfl) (by kernel_rfl) (by kernel_rfl) (by kernel_rfl) (by kernel_rfl) (by kernel_rfl) (by kernel_rfl) (by kernel_rfl) (by kernel_rfl) (by kernel_rfl) (by kernel_rfl)
  rfl rfl (by omega) (by omega) (by omega) HH.out.c18 ?_
 intro a W6 hfr h6 h7 bY hb6
 generalize Value.slice (if cp=19 then some ⟨g,o,none⟩ else some ⟨g,o+19,none⟩) (19 - 19) (cp - 19)=v7 at h7
 obtain ⟨x0,x1,x2,x3,x4,x5,x6,rfl⟩:=hfr.lay9m (by exact (by decide:∀ s∈[29,30,31,32,33,34,35,6,7],s < 75)) h6 h7
 have HD:Hid (D6 w W6 w1.heap.size W.heap.size (msgC 4 0 0 (.slice none 0 0)) (.slice a9 0 c9)):=HH.out.d6 bY hb6
 have hsz:=HH.out.le
 have y0:W6.cell? ⟨W.heap.size,0,none⟩=some (.int .i64 4):=range_of HD.out.bY 0 _ rfl
 have x00:W6.cell? ⟨w1.heap.size,0,none⟩=some (.int .i64 0):=range_of HD.out.bX 0 _ rfl
 have zY:W.heap.size < W6.heap.size:=HD.out.hs
 have zX:w1.heap.size < W6.heap.size:=by have:=HD.out.hY; omega
 clear hfr h6 h7 bY hb6
 simp only [Act.put,List.setIfInBounds_toArray,List.set_cons_zero,List.set_cons_succ]
 go_wp2_with fail
 refine out_region _ W6 w.heap.size (w.heap.size+1) 40 zM (msgC 4 0 0 (.slice none 0 0)) #[.int .i64 0,.int .i64 0,.slice none 0 0] #[.int .i64 0,.int .i64 0,.slice a9 0 c9] 73 74 _ _ (opi rfl) (opi rfl) (opi rfl) (opi rfl) rfl (by kernel_rfl) (by kernel_rfl) (by kernel_rfl) (by kernel_rfl) (by kernel_rfl) (by kernel_rfl) (by kernel_rfl) (by kernel_rfl)
  (fun ty po af W' hW=>run_of_loadM (MC.msg 4 0 0 none 0 0) (g:=W.heap.size) (by rfl) (range_of (by
   rw [hW.block _ (by omega) (by have:=HD.out.hX; have:=HD.out.hY; omega)]; exact HD.out.bY)))
  (fun ty po af W' hW=>run_of_loadN (g:=w1.heap.size) (by rfl) (by
   rw [hW.block _ (by omega) (by have:=HD.out.hX; omega)]; exact HD.out.bX)) rfl rfl (show 73 < 75 by decide) (show 74 < 75 by decide) (by decide) HD.out.bM HD.out.bN (by omega) rfl rfl infoM infoN (MC.msg 4 0 0 none 0 0).2 (by simp [Value.oneCell']) ?_
 simp only [Act.put,List.setIfInBounds_toArray,List.set_cons_zero,List.set_cons_succ]
 have HRM:Hid (((({ W6 with drawn:=W6.drawn+1 } : World).setCells w.heap.size 0 (msgC 4 0 0 (.slice none 0 0)).toList).setCells (w.heap.size+1) 0 (#[Value.int .i64 0,.int .i64 0,.slice a9 0 c9]:Array Value).toList).rangeAt w.heap.size 0 (msgC 4 0 0 (.slice none 0 0)).toList):=bx_apart (bx_set (w:={ W6 with drawn:=W6.drawn+1 }) HD.out.bM (Nat.le_refl _)) (by omega)
 have HRN:Hid (((({ W6 with drawn:=W6.drawn+1 } : World).setCells w.heap.size 0 (msgC 4 0 0 (.slice none 0 0)).toList).setCells (w.heap.size+1) 0 (#[Value.int .i64 0,.int .i64 0,.slice a9 0 c9]:Array Value).toList).rangeAt (w.heap.size+1) 0 (#[Value.int .i64 0,.int .i64 0,.slice a9 0 c9]:Array Value).toList) :=
  bx_set (C0:=#[.int .i64 0,.int .i64 0,.slice none 0 0]) (t:=38) (by rw [heap_sets (by omega)]; exact HD.out.bN) (by simp)
 have HKe:Hid (Keeps (fun x=>x=w.heap.size∨x=w.heap.size+1) W6 ((({ W6 with drawn:=W6.drawn+1 } : World).setCells w.heap.size 0 (msgC 4 0 0 (.slice none 0 0)).toList).setCells (w.heap.size+1) 0 (#[Value.int .i64 0,.int .i64 0,.slice a9 0 c9]:Array Value).toList)) :=
  (Keeps.setCells (w:=W6) (w1:={ W6 with drawn:=W6.drawn+1 }) ⟨rfl,rfl,rfl,Nat.le_refl _,fun _ _ _=>rfl⟩ _ 0 _ (.inl (.inl rfl))).setCells _ 0 _ (.inl (.inr rfl))
 generalize ((({ W6 with drawn:=W6.drawn+1 } : World).setCells w.heap.size 0 (msgC 4 0 0 (.slice none 0 0)).toList).setCells (w.heap.size+1) 0 (#[Value.int .i64 0,.int .i64 0,.slice a9 0 c9]:Array Value).toList)=W9 at *
 go_wp2_with fail
 refine bodyPost_ret (v:=.tuple #[.agg (msgC 4 0 0 (.slice none 0 0)),.agg #[.int .i64 0,.int .i64 0,.slice a9 0 c9]]) (res_cells2 Tryz.results10 _ W9 w.heap.size (w.heap.size+1) (msgC 4 0 0 (.slice none 0 0)) _ rfl rfl HRM.out HRN.out Tryz.underlying40 rfl infoM Tryz.underlying38 rfl infoN) rfl ⟨⟨a9,c9,rfl⟩,?_⟩
 exact HD.out.bel.trans (HKe.out.below _ (by have:=HD.out.bel.size; omega) (fun x e=>by omega))
end
theorem brd_two (w:World)(n:Nat)(hn:n < 65536):BRd (w.alloc (.cells #[.int .u8 ((n:Int) / 256),.int .u8 ((n:Int) % 256)] 5)) (some ⟨w.heap.size,0,none⟩) [n / 256,n % 256]:=by
 refine ⟨⟨by simp [maxLen],fun _=>⟨_,0,rfl,fun i hi=>?_⟩⟩,by simp; omega⟩
 match i,hi with
 | 0,_=>simp [go_sem]
 | 1,_=>simp [go_sem]
theorem brd_one (w:World)(k:Nat)(hk:k < 256):BRd (w.alloc (.cells #[.int .u8 (k:Int)] 5)) (some ⟨w.heap.size,0,none⟩) [k]:=by
 refine ⟨⟨by simp [maxLen],fun _=>⟨_,0,rfl,fun i hi=>?_⟩⟩,by simp; omega⟩
 match i,hi with
 | 0,_=>simp [go_sem]
theorem brd_ff {w:World}{g:Nat} (h:∀ i,i < 16→w.cell? ⟨g,i,none⟩=some (.int .u8 255)):BRd w (some ⟨g,0,none⟩) ff16:=by
 refine ⟨⟨by simp [maxLen,ff16],fun _=>⟨g,0,rfl,fun i hi=>?_⟩⟩,fun x hx=>by have:=(List.mem_replicate.1 hx).2; omega⟩
 have hi':i < 16:=by simpa [ff16] using hi
 have h9:∀ i,i < 16→ff16.getD i 0=255:=by decide
 rw [Nat.zero_add,h i hi']
 show some (Value.int .u8 255)=some (.int .u8 ((ff16.getD i 0:Nat):Int))
 rw [h9 i hi']
 rfl
section
variable {ops:Array Oper}{Q:Exit→Act→World→Prop}
def lstE (p q:Nat):Array Bool:=#[decide (1≤p),decide (2≤p),true,decide (1≤q),true,true,decide (2≤q),true,false,false,false]
set_option maxHeartbeats 1000000 in
theorem enc_region (b0:Act)(w0:World)(n k:Nat)(bd:List Nat)(ab:Option Addr)(cb:Nat)(hn:n < 65536)(hk:k < 256)
  (o0:opk ops 0 (some 20) (.buildSlice 22 16 #[(0,.const (.int .u8 255)),(1,.const (.int .u8 255)),(2,.const (.int .u8 255)),(3,.const (.int .u8 255)),(4,.const (.int .u8 255)),(5,.const (.int .u8 255)),(6,.const (.int .u8 255)),(7,.const (.int .u8 255)),(8,.const (.int .u8 255)),(9,.const (.int .u8 255)),(10,.const (.int .u8 255)),(11,.const (.int .u8 255)),(12,.const (.int .u8 255)),(13,.const (.int .u8 255)),(14,.const (.int .u8 255)),(15,.const (.int .u8 255))]))
  (o1:opk ops 1 (some 21) (.convert 22 22 (.tmp 20)))
  (o3:opk ops 3 (some 23) (.call { callee:=.value (.func 40),args:=#[.tmp 22,.const (.int .i64 2)],argTypes:=#[3,3] }))
  (o6:opk ops 6 (some 26) (.call { callee:=.value (.func 40),args:=#[.tmp 25,.const (.int .i64 1)],argTypes:=#[3,3] }))
  (o8:opk ops 8 (some 28) (.buildSlice 89 4 #[(0,.tmp 21),(1,.tmp 23),(2,.tmp 26),(3,.tmp 27)]))
  (o9:opk ops 9 (some 29) (.call { callee:=.value (.func 39),args:=#[.tmp 28],argTypes:=#[89] }))
  (o10:opk ops 10 (some 2) (.assign (.tmp 29)))
  (r00:Region.ready .any ops (lstE 0 0)=[0,3]) (r10:Region.ready .any ops (lstE 1 0)=[1,3]) (r20:Region.ready .any ops (lstE 2 0)=[3])
  (r01:Region.ready .any ops (lstE 0 1)=[0,6]) (r11:Region.ready .any ops (lstE 1 1)=[1,6]) (r21:Region.ready .any ops (lstE 2 1)=[6])
  (r02:Region.ready .any ops (lstE 0 2)=[0]) (r12:Region.ready .any ops (lstE 1 2)=[1]) (r22:Region.ready .any ops (lstE 2 2)=[8])
  (r8:Region.ready .any ops ((lstE 2 2).setIfInBounds 8 true)=[9]) (r9:Region.ready .any ops (((lstE 2 2).setIfInBounds 8 true).setIfInBounds 9 true)=[10]) (rE:Region.ready .any ops ((((lstE 2 2).setIfInBounds 8 true).setIfInBounds 9 true).setIfInBounds 10 true)=[])
  (hsz:b0.tmps.size=30) (s22:b0.tmps[22]?=some (.int .i64 (n:Int))) (s25:b0.tmps[25]?=some (.int .i64 (k:Int))) (s27:b0.tmps[27]?=some (.slice ab bd.length cb)) (hbd:BRd w0 ab bd) (hl:bd.length≤50000)
  (fin:∀ a W v,Fr [20,21,23,26,28,29,2] b0 a→a.tmps[2]?=some v→W.ownsRow w0.heap.size 5 1 v (ff16++[n / 256,n % 256,k]++bd).length (bcells (ff16++[n / 256,n % 256,k]++bd))→Below w0.heap.size w0 W→Q .normal a W)
  (W0:World) (hW0:Below w0.heap.size w0 W0) :
  wpAnyH Tryz.prog .any ops Q (fun W=>Below w0.heap.size w0 W) 7 (lstE 0 0) b0 W0:=by
 obtain ⟨t0,p0,f0,h0⟩:=o0
 obtain ⟨t1,p1,f1,h1⟩:=o1
 obtain ⟨t3,p3,f3,h3⟩:=o3
 obtain ⟨t6,p6,f6,h6⟩:=o6
 obtain ⟨t8,p8,f8,h8⟩:=o8
 obtain ⟨t9,p9,f9,h9⟩:=o9
 obtain ⟨t10,p10,f10,h10⟩:=o10
 let Ls:=[20,21,23,26,28,29,2]
 have sB0:∀ q a W,JE Ls b0 w0 n k 0 q a W→wpOp Tryz.prog ops Q 0 (fun a' w'=>JE Ls b0 w0 n k 1 q a' w') a W:=fun q a W h=>by
  refine op_plain h0 rfl (wp_of_run' run_ff ?_)
  have hb:Below W.heap.size W (W.alloc (.cells ffC 5)):=(Below.refl _ W).alloc (Nat.le_refl _) _
  have h2:=h.later hb
  refine ⟨h.fr.put (by decide) _,h2.bel,fun _=>⟨W.heap.size,slot_same _ (by rw [h.fr.size,hsz]; decide),h.bel.size,by unfold World.alloc; exact Array.getElem?_push_size⟩,fun e=>absurd e (by decide),fun e=>?_,fun e=>?_⟩
  ·obtain ⟨x,c,e1,e2⟩:=h2.q1 e; exact ⟨x,c,by rw [slot_put _ (by decide)]; exact e1,e2⟩
  ·obtain ⟨x,c,e1,e2⟩:=h2.q2 e; exact ⟨x,c,by rw [slot_put _ (by decide)]; exact e1,e2⟩
 have sB1:∀ q a W,JE Ls b0 w0 n k 1 q a W→wpOp Tryz.prog ops Q 1 (fun a' w'=>JE Ls b0 w0 n k 2 q a' w') a W:=fun q a W h=>by
  obtain ⟨g,e1,e2,e3⟩:=h.p1 rfl
  have hrun:(execOp a.eval { dst:=some 21,op:=.convert 22 22 (.tmp 20),type:=t1,pos:=p1,after:=f1,guard:=none }).run Tryz.prog W=.ok (.value (.slice (some ⟨g,0,none⟩) 16 16)) (W.freeze ⟨g,ffC.size,none⟩ 1):=by
   unfold execOp
   simp only [slot_eval e1,Sem.run_bind,run_mark W g ffC 16 16 e3,Result.andThen_ok,Sem.run_pure]
  have hc:∀ x,(W.freeze ⟨g,ffC.size,none⟩ 1).cell? x=W.cell? x:=fun x=>cell_freeze W _ 1 x g ffC _ _ rfl e3
  refine op_plain h1 rfl (wp_of_run' hrun ?_)
  refine ⟨h.fr.put (by decide) _,Go.Lib.below_freeze h.bel e2 1,fun e=>absurd e (by decide),fun _=>⟨_,16,slot_same _ (by rw [h.fr.size,hsz]; decide),?_⟩,fun e=>?_,fun e=>?_⟩
  ·refine brd_ff fun i hi=>?_
   rw [hc]
   unfold World.cell?
   simp only [e3]
   have h9:∀ i,i < 16→ffC[i]?=some (.int .u8 255):=fun i hi=>by
    rcases (by omega:i=0∨i=1∨i=2∨i=3∨i=4∨i=5∨i=6∨i=7∨i=8∨i=9∨i=10∨i=11∨i=12∨i=13∨i=14∨i=15) with rfl | rfl | rfl | rfl | rfl | rfl | rfl | rfl | rfl | rfl | rfl | rfl | rfl | rfl | rfl | rfl <;> rfl
   rw [h9 i hi]
   rfl
  ·obtain ⟨x,c,e1,e2⟩:=h.q1 e; exact ⟨x,c,by rw [slot_put _ (by decide)]; exact e1,brd_cells e2 hc⟩
  ·obtain ⟨x,c,e1,e2⟩:=h.q2 e; exact ⟨x,c,by rw [slot_put _ (by decide)]; exact e1,brd_cells e2 hc⟩
 have sC0:∀ p a W,JE Ls b0 w0 n k p 0 a W→wpOp Tryz.prog ops Q 3 (fun a' w'=>JE Ls b0 w0 n k p 1 a' w') a W:=fun p a W h=>by
  refine op_plain h3 rfl (call_number (.tmp 22) (.const (.int .i64 2)) (.int .i64 (n:Int)) (.int .i64 2) (slot_eval (h.fr.slot (by decide) s22)) rfl ((number_two n W hn).mono ?_))
  rintro e w' ⟨rfl,rfl⟩
  have hb:Below W.heap.size W (W.alloc (.cells #[.int .u8 ((n:Int) / 256),.int .u8 ((n:Int) % 256)] 5)):=(Below.refl _ W).alloc (Nat.le_refl _) _
  have h2:=h.later hb
  refine ⟨_,rfl,h.fr.put (by decide) _,h2.bel,fun e=>?_,fun e=>?_,fun _=>⟨_,2,slot_same _ (by rw [h.fr.size,hsz]; decide),brd_two W n hn⟩,fun e=>absurd e (by decide)⟩
  ·obtain ⟨g,e1,e2,e3⟩:=h2.p1 e; exact ⟨g,by rw [slot_put _ (by decide)]; exact e1,e2,e3⟩
  ·obtain ⟨x,c,e1,e2⟩:=h2.p2 e; exact ⟨x,c,by rw [slot_put _ (by decide)]; exact e1,e2⟩
 have sC1:∀ p a W,JE Ls b0 w0 n k p 1 a W→wpOp Tryz.prog ops Q 6 (fun a' w'=>JE Ls b0 w0 n k p 2 a' w') a W:=fun p a W h=>by
  refine op_plain h6 rfl (call_number (.tmp 25) (.const (.int .i64 1)) (.int .i64 (k:Int)) (.int .i64 1) (slot_eval (h.fr.slot (by decide) s25)) rfl ((number_one k W hk).mono ?_))
  rintro e w' ⟨rfl,rfl⟩
  have hb:Below W.heap.size W (W.alloc (.cells #[.int .u8 (k:Int)] 5)):=(Below.refl _ W).alloc (Nat.le_refl _) _
  have h2:=h.later hb
  refine ⟨_,rfl,h.fr.put (by decide) _,h2.bel,fun e=>?_,fun e=>?_,fun _=>?_,fun _=>⟨_,1,slot_same _ (by rw [h.fr.size,hsz]; decide),brd_one W k hk⟩⟩
  ·obtain ⟨g,e1,e2,e3⟩:=h2.p1 e; exact ⟨g,by rw [slot_put _ (by decide)]; exact e1,e2,e3⟩
  ·obtain ⟨x,c,e1,e2⟩:=h2.p2 e; exact ⟨x,c,by rw [slot_put _ (by decide)]; exact e1,e2⟩
  ·obtain ⟨x,c,e1,e2⟩:=h2.q1 (by decide); exact ⟨x,c,by rw [slot_put _ (by decide)]; exact e1,e2⟩
 have j22:∀ a W,JE Ls b0 w0 n k 2 2 a W→wpAnyH Tryz.prog .any ops Q (fun W=>Below w0.heap.size w0 W) 3 (lstE 2 2) a W:=fun a W h=>by
  obtain ⟨x0,c0,u0,v0⟩:=h.p2 rfl
  obtain ⟨x1,c1,u1,v1⟩:=h.q1 (by decide)
  obtain ⟨x2,c2,u2,v2⟩:=h.q2 (by decide)
  have u3:=h.fr.slot (t:=27) (by decide) s27
  have v3:=hbd.below h.bel
  refine wpAnyH_all r22 (by simp) fun i hi=>?_
  obtain rfl:i=8:=by simpa using hi
  refine op_plain h8 rfl (wp_of_run' (run_four a.eval (.tmp 21) (.tmp 23) (.tmp 26) (.tmp 27) x0 x1 x2 ab 16 2 1 bd.length c0 c1 c2 cb (slot_eval u0) (slot_eval u1) (slot_eval u2) (slot_eval u3)) ?_)
  have hb:Below W.heap.size W (W.alloc (.cells #[.slice x0 16 c0,.slice x1 2 c1,.slice x2 1 c2,.slice ab bd.length cb] 22)):=(Below.refl _ W).alloc (Nat.le_refl _) _
  refine ⟨h.bel.trans (hb.mono h.bel.size),?_⟩
  refine wpAnyH_all r8 (by simp) fun i hi=>?_
  obtain rfl:i=9:=by simpa using hi
  have hfr2:=h.fr.put (t:=28) (by decide) (.slice (some ⟨W.heap.size,0,none⟩) 4 4)
  have hfl:flatB [(x0,c0,ff16),(x1,c1,[n / 256,n % 256]),(x2,c2,[k]),(ab,cb,bd)]=ff16++[n / 256,n % 256,k]++bd:=by simp [flatB]
  have K:=obo_any W.heap.size 0 4 [(x0,c0,ff16),(x1,c1,[n / 256,n % 256]),(x2,c2,[k]),(ab,cb,bd)] (W.alloc (.cells #[.slice x0 16 c0,.slice x1 2 c1,.slice x2 1 c2,.slice ab bd.length cb] 22)) (by simp) (fun i x hx=>by
   match i with
   | 0=>simp at hx; subst hx; simp [go_sem,ff16]
   | 1=>simp at hx; subst hx; simp [go_sem]
   | 2=>simp at hx; subst hx; simp [go_sem]
   | 3=>simp at hx; subst hx; simp [go_sem]
   | i+4=>simp at hx) (fun x hx=>by
    simp at hx
    rcases hx with rfl | rfl | rfl | rfl
    ·exact v0.below hb
    ·exact v1.below hb
    ·exact v2.below hb
    ·exact v3.below hb) (by rw [hfl]; simp [ff16]; omega)
  rw [hfl] at K
  refine op_plain h9 rfl (call_obo (.tmp 28) (.slice (some ⟨W.heap.size,0,none⟩) 4 4) (slot_eval (slot_same _ (by rw [h.fr.size,hsz]; decide))) (K.mono ?_))
  rintro e w' ⟨v,rfl,ho,hb2⟩
  have hbel:Below w0.heap.size w0 w':=h.bel.trans ((hb.mono h.bel.size).trans (hb2.mono (by have:=h.bel.size; simp; omega)))
  refine ⟨_,rfl,hbel,?_⟩
  refine wpAnyH_all r9 (by simp) fun i hi=>?_
  obtain rfl:i=10:=by simpa using hi
  have hfr3:=hfr2.put (t:=29) (by decide) v
  have s29:((a.put (some 28) (.slice (some ⟨W.heap.size,0,none⟩) 4 4)).put (some 29) v).tmps[29]?=some v:=slot_same _ (by rw [hfr2.size,hsz]; decide)
  have hrun:(execOp ((a.put (some 28) (.slice (some ⟨W.heap.size,0,none⟩) 4 4)).put (some 29) v).eval { dst:=some 2,op:=.assign (.tmp 29),type:=t10,pos:=p10,after:=f10,guard:=none }).run Tryz.prog w'=.ok (.value v) w':=by
   unfold execOp
   simp only [slot_eval s29,Sem.run_pure]
  refine op_plain h10 rfl (wp_of_run' hrun ?_)
  refine ⟨hbel,wpAnyH_done rE ?_ _⟩
  exact fin _ _ v (hfr3.put (t:=2) (by decide) v) (slot_same _ (by rw [hfr3.size,hsz]; decide)) (own_low ho (by have:=h.bel.size; simp; omega)) hbel
 have step:∀ {m:Nat}{p q:Nat}{a:Act}{W:World}{rs:List Nat} (_:Region.ready .any ops (lstE p q)=rs) (_:rs≠[]) (_:∀ i∈rs,wpOp Tryz.prog ops Q i (fun a' w'=>Below w0.heap.size w0 w'∧wpAnyH Tryz.prog .any ops Q (fun W=>Below w0.heap.size w0 W) m ((lstE p q).setIfInBounds i true) a' w') a W),wpAnyH Tryz.prog .any ops Q (fun W=>Below w0.heap.size w0 W) (m+1) (lstE p q) a W:=fun hr hne h=>wpAnyH_all hr hne h
 have j12:∀ a W,JE Ls b0 w0 n k 1 2 a W→wpAnyH Tryz.prog .any ops Q (fun W=>Below w0.heap.size w0 W) 4 (lstE 1 2) a W:=fun a W h=>by
  refine step r12 (by simp) fun i hi=>?_
  obtain rfl:i=1:=by simpa using hi
  exact op_weak (sB1 2 a W h) fun a' w' h'=>⟨h'.bel,j22 a' w' h'⟩
 have j21:∀ a W,JE Ls b0 w0 n k 2 1 a W→wpAnyH Tryz.prog .any ops Q (fun W=>Below w0.heap.size w0 W) 4 (lstE 2 1) a W:=fun a W h=>by
  refine step r21 (by simp) fun i hi=>?_
  obtain rfl:i=6:=by simpa using hi
  exact op_weak (sC1 2 a W h) fun a' w' h'=>⟨h'.bel,j22 a' w' h'⟩
 have j02:∀ a W,JE Ls b0 w0 n k 0 2 a W→wpAnyH Tryz.prog .any ops Q (fun W=>Below w0.heap.size w0 W) 5 (lstE 0 2) a W:=fun a W h=>by
  refine step r02 (by simp) fun i hi=>?_
  obtain rfl:i=0:=by simpa using hi
  exact op_weak (sB0 2 a W h) fun a' w' h'=>⟨h'.bel,j12 a' w' h'⟩
 have j20:∀ a W,JE Ls b0 w0 n k 2 0 a W→wpAnyH Tryz.prog .any ops Q (fun W=>Below w0.heap.size w0 W) 5 (lstE 2 0) a W:=fun a W h=>by
  refine step r20 (by simp) fun i hi=>?_
  obtain rfl:i=3:=by simpa using hi
  exact op_weak (sC0 2 a W h) fun a' w' h'=>⟨h'.bel,j21 a' w' h'⟩
 have j11:∀ a W,JE Ls b0 w0 n k 1 1 a W→wpAnyH Tryz.prog .any ops Q (fun W=>Below w0.heap.size w0 W) 5 (lstE 1 1) a W:=fun a W h=>by
  refine step r11 (by simp) fun i hi=>?_
  rcases (by simpa using hi:i=1∨i=6) with rfl | rfl
  ·exact op_weak (sB1 1 a W h) fun a' w' h'=>⟨h'.bel,j21 a' w' h'⟩
  ·exact op_weak (sC1 1 a W h) fun a' w' h'=>⟨h'.bel,j12 a' w' h'⟩
 have j01:∀ a W,JE Ls b0 w0 n k 0 1 a W→wpAnyH Tryz.prog .any ops Q (fun W=>Below w0.heap.size w0 W) 6 (lstE 0 1) a W:=fun a W h=>by
  refine step r01 (by simp) fun i hi=>?_
  rcases (by simpa using hi:i=0∨i=6) with rfl | rfl
  ·exact op_weak (sB0 1 a W h) fun a' w' h'=>⟨h'.bel,j11 a' w' h'⟩
  ·exact op_weak (sC1 0 a W h) fun a' w' h'=>⟨h'.bel,j02 a' w' h'⟩
 have j10:∀ a W,JE Ls b0 w0 n k 1 0 a W→wpAnyH Tryz.prog .any ops Q (fun W=>Below w0.heap.size w0 W) 6 (lstE 1 0) a W:=fun a W h=>by
  refine step r10 (by simp) fun i hi=>?_
  rcases (by simpa using hi:i=1∨i=3) with rfl | rfl
  ·exact op_weak (sB1 0 a W h) fun a' w' h'=>⟨h'.bel,j20 a' w' h'⟩
  ·exact op_weak (sC0 1 a W h) fun a' w' h'=>⟨h'.bel,j11 a' w' h'⟩
 refine step r00 (by simp) fun i hi=>?_
 have hJ:JE Ls b0 w0 n k 0 0 b0 W0:=⟨Fr.refl _ _,hW0,fun e=>absurd e (by decide),fun e=>absurd e (by decide),fun e=>absurd e (by decide),fun e=>absurd e (by decide)⟩
 rcases (by simpa using hi:i=0∨i=3) with rfl | rfl
 ·exact op_weak (sB0 0 b0 W0 hJ) fun a' w' h'=>⟨h'.bel,j10 a' w' h'⟩
 ·exact op_weak (sC0 0 b0 W0 hJ) fun a' w' h'=>⟨h'.bel,j01 a' w' h'⟩
end
theorem Fr.lay7 {t0 t1 t2 t3 t4 t5 t6:Nat}{b a:Act} (h:Fr [t0,t1,t2,t3,t4,t5,t6] b a) (hsz:∀ s∈[t0,t1,t2,t3,t4,t5,t6],s < b.tmps.size) {v6:Value} (h6:a.tmps[t6]?=some v6) :
  ∃ x0 x1 x2 x3 x4 x5,a=((((((b.put (some t0) x0).put (some t1) x1).put (some t2) x2).put (some t3) x3).put (some t4) x4).put (some t5) x5).put (some t6) v6:=by
 have get:∀ t,t∈[t0,t1,t2,t3,t4,t5,t6]→∃ x,a.tmps[t]?=some x:=fun t ht=>⟨_,Array.getElem?_eq_getElem (by rw [h.size]; exact hsz t ht)⟩
 obtain ⟨x0,h0⟩:=get t0 (by simp)
 obtain ⟨x1,h1⟩:=get t1 (by simp)
 obtain ⟨x2,h2⟩:=get t2 (by simp)
 obtain ⟨x3,h3⟩:=get t3 (by simp)
 obtain ⟨x4,h4⟩:=get t4 (by simp)
 obtain ⟨x5,h5⟩:=get t5 (by simp)
 refine ⟨x0,x1,x2,x3,x4,x5,Fr.eq (b:=b) (l:=[(t0,x0),(t1,x1),(t2,x2),(t3,x3),(t4,x4),(t5,x5),(t6,v6)]) (c:=b) rfl h.defers h.size h.out fun p hp=>?_⟩
 simp only [List.mem_cons,List.not_mem_nil,or_false] at hp
 rcases hp with rfl | rfl | rfl | rfl | rfl | rfl | rfl <;> assumption
section
attribute [local go_sem ↓] keptM_load keptM_box
set_option maxHeartbeats 4000000 in
theorem enc_good (k:Nat)(C:Array Value)(bd:List Nat)(w:World)(hC:MC C)(hC0:C[0]?=some (.int .i64 (k:Int)))(hk:k < 256)(hl:bd.length≤50000)(hshort:19+bd.length≤4096)
  (K:Hid (∀ o,Calls Tryz.prog 38 #[.agg C] (w.alloc o) fun e w'=>∃ a9 c9,e=.returned (.tuple #[.slice a9 bd.length c9,.bool true])∧Hid (BRd w' a9 bd)∧Hid (Below (w.alloc o).heap.size (w.alloc o) w'))) :
  Calls Tryz.prog 22 #[.agg C] w fun e w'=>∃ v,e=.returned v∧w'.ownsRow w.heap.size 5 1 v (ff16++[(19+bd.length) / 256,(19+bd.length) % 256,k]++bd).length (bcells (ff16++[(19+bd.length) / 256,(19+bd.length) % 256,k]++bd))∧Below w.heap.size w w':=by
 obtain ⟨bl,hbl⟩:∃ bl,bl=bd.length:=⟨_,rfl⟩
 have HBL:=hide hbl
 rw [← hbl] at K
 have h1:decide ((4096:Int) < 19+(bl:Int))=false:=decide_eq_false (by omega)
 have h5:(bl:Int)≤5000:=by omega
 have HL5:Hid (bl≤5000):=by show bl≤5000; omega
 have HL:Hid ((Instr.loadAt 40 (.pointer (some ⟨w.heap.size,0,none⟩))).run Tryz.prog (w.alloc (.cells C 40))=.ok (.agg C) (w.alloc (.cells C 40))):=run_loadM (range_of (heap_alloc_new w _)) hC
 have HC0:=hide hC0
 clear hbl hl hshort hC0
 go_enter Tryz.func22,Tryz.ntmps22
 go_wp2_with (first | (refine keptM_box_intro _ (.agg C) _ (by rfl) (run_boxM C w) ?_) | (refine keptM_load_intro _ (.pointer (some ⟨w.heap.size,0,none⟩)) (.agg C) (by rfl) HL.out ?_))
 refine (K.out _).mono ?_
 rintro e w1 ⟨a9,c9,rfl,HR,HB⟩
 have k0:w1.cell? ⟨w.heap.size,0,none⟩=some (.int .i64 (k:Int)):=by
  rw [HB.out.cell (p:=⟨w.heap.size,0,none⟩) (by simp)]
  exact range_of (heap_alloc_new w _) 0 _ (by rw [Array.getElem?_toList]; exact HC0.out)
 have hz:w.heap.size < w1.heap.size:=by have:=HB.out.size; simp at this; omega
 have HB0:Hid (Below w.heap.size w w1):=((Below.refl w.heap.size w).alloc (Nat.le_refl _) _).trans (HB.out.mono (by simp))
 clear K
 go_wp2_with fail
 have hdr:Below w1.heap.size w1 { w1 with drawn:=w1.drawn+1 }:=(Below.refl _ w1).drew
 refine wp_region_noPanic ?_
 refine wp_region_held (S:=fun W=>Below w1.heap.size w1 W) (by kernel_rfl) ?_
 refine take_slot (i:=2) (d:=22) (v:=.int .i64 ((19+bl:Nat):Int)) rfl rfl rfl (by kernel_rfl) (by kernel_rfl) (by kernel_rfl) (fun _ _ _ _ h=>h) (fun w _=>op_move _ w _ _ _ rfl (by show Value.int .i64 (19+(bl:Int))=_; rw [Int.natCast_add]; rfl)) hdr ?_
 simp only [Act.put,List.setIfInBounds_toArray,List.set_cons_zero,List.set_cons_succ]
 refine take_slot (i:=4) (d:=24) (v:=.pointer (some ⟨w.heap.size,0,none⟩)) rfl rfl rfl (by kernel_rfl) (by kernel_rfl) (by kernel_rfl) (fun _ _ _ _ h=>h) (fun w _=>by go_simp) hdr ?_
 simp only [Act.put,List.setIfInBounds_toArray,List.set_cons_zero,List.set_cons_succ]
 refine take_slot (i:=5) (d:=25) (v:=.int .i64 (k:Int)) rfl rfl rfl (by kernel_rfl) (by kernel_rfl) (by kernel_rfl) (fun _ _ _ _ h=>h) (fun W hW=>by
  have k1:W.cell? ⟨w.heap.size,0,none⟩=some (.int .i64 (k:Int)):=by rw [hW.cell (p:=⟨w.heap.size,0,none⟩) hz]; exact k0
  go_simp) hdr ?_
 simp only [Act.put,List.setIfInBounds_toArray,List.set_cons_zero,List.set_cons_succ]
 refine take_slot (i:=7) (d:=27) (v:=.slice a9 bl c9) rfl rfl rfl (by kernel_rfl) (by kernel_rfl) (by kernel_rfl) (fun _ _ _ _ h=>h) (fun w _=>op_move _ w _ _ _ rfl rfl) hdr ?_
 simp only [Act.put,List.setIfInBounds_toArray,List.set_cons_zero,List.set_cons_succ]
 refine enc_region _ w1 (19+bl) k bd a9 c9 (by have:=HL5.out; omega) hk (opi rfl) (opi rfl) (opi rfl) (opi rfl) (opi rfl) (opi rfl) (opi rfl)
  (by kernel_rfl) (by kernel_rfl) (by kernel_rfl) (by kernel_rfl) (by kernel_rfl) (by kernel_rfl) (by kernel_rfl) (by kernel_rfl) (by kernel_rfl) (by kernel_rfl) (by kernel_rfl) (by kernel_rfl) rfl rfl rfl (by rw [← HBL.out]; rfl) HR.out (by rw [← HBL.out]; have:=HL5.out; omega) ?_ _ hdr
 intro a W v hfr h2 ho hb
 obtain ⟨x0,x1,x2,x3,x4,x5,rfl⟩:=hfr.lay7 (by exact (by decide:∀ s∈[20,21,23,26,28,29,2],s < 30)) h2
 have HO:=hide (own_low ho (show w.heap.size≤w1.heap.size by omega))
 have HBW:=hide (HB0.out.trans (hb.mono (show w.heap.size≤w1.heap.size by omega)))
 clear ho hb hfr
 refine NoPanic.normal ?_
 simp only [Act.put,List.setIfInBounds_toArray,List.set_cons_zero,List.set_cons_succ]
 go_wp2
 go_ret
 rw [← HBL.out]
 exact ⟨v,rfl,HO.out,HBW.out⟩
end
def aliveB:List Nat:=ff16++[0,19,4]
theorem alive_len:aliveB.length=19:=rfl
theorem alive_lt:∀ x∈aliveB,x < 256:=by decide
theorem alive_head:headM aliveB=(19,0,0,[]):=by decide
theorem enc_alive (w:World):Calls Tryz.prog 22 #[.agg (msgC 4 0 0 (.slice none 0 0))] w fun e w'=>∃ a c,e=.returned (.slice (some a) 19 c)∧19≤c∧a.spot=none∧Hid (BRd w' (some a) aliveB)∧Hid (Below w.heap.size w w'):=by
 refine (enc_good 4 (msgC 4 0 0 (.slice none 0 0)) [] w (MC.msg 4 0 0 none 0 0) rfl (by decide) (by decide) (by decide) (fun o=>?_)).mono ?_
 ·refine (bodyof_alive (w.alloc o)).mono ?_
  rintro e w' ⟨rfl,hb⟩
  exact ⟨none,0,rfl,brd_none _ _,hb⟩
 ·rintro e w' ⟨v,rfl,ho,hb⟩
  have e1:ff16++[(19+([]:List Nat).length) / 256,(19+([]:List Nat).length) % 256,4]++[]=aliveB:=by decide
  rw [e1] at ho
  obtain ⟨a,c,rfl,hc,hr⟩:=own_brd ho (by rw [alive_len]; decide) alive_lt
  rw [alive_len] at hc ⊢
  obtain ⟨b,off,rfl,_⟩:=hr.1.2 (by rw [alive_len]; decide)
  exact ⟨_,c,rfl,hc,rfl,hr,hb⟩
theorem store_both (w:World)(C:Array Value)(hC:MC C):∃ W5,(Instr.storeAt 40 (.pointer (some ⟨w.heap.size,0,none⟩)) (.agg C)).run Tryz.prog ((w.alloc (.cells zM 40)).alloc (.cells #[.int .i64 0,.int .i64 0,.slice none 0 0] 38))=.ok () W5∧NtBox W5 (w.heap.size+1)∧W5.heap[w.heap.size]?=some (.cells C 40 (0,0))∧Below w.heap.size w W5:=by
 have h0:=dW_M w
 have hb:Keeps (fun x=>x=w.heap.size) (dW w) ((dW w).setCells w.heap.size 0 C.toList):=(Keeps.refl _ _).setCells _ 0 _ (.inl rfl)
 refine ⟨(dW w).setCells w.heap.size 0 C.toList,run_storeM (w:=dW w) h0 rfl hC,?_,bx_put h0 hC.1,(dW_below w).trans (hb.below _ (dW_below w).size (fun x e=>by omega))⟩
 have h1:NtBox (dW w) (w.heap.size+1):=by
  have:=NtBox.made (w.alloc (.cells zM 40))
  rw [World.size_alloc] at this
  exact this
 have hk:∀ j,((dW w).setCells w.heap.size 0 C.toList).cell? ⟨w.heap.size+1,j,none⟩=(dW w).cell? ⟨w.heap.size+1,j,none⟩:=fun j=>World.cell?_of_block (heap_sets (by simp))
 have hf:∀ j,((dW w).setCells w.heap.size 0 C.toList).frozen? ⟨w.heap.size+1,j,none⟩=(dW w).frozen? ⟨w.heap.size+1,j,none⟩:=fun j=>World.frozen?_of_block (heap_sets (by simp))
 obtain ⟨z,r0,r1,r2,f0,f1,f2⟩:=h1
 exact ⟨Nat.lt_of_lt_of_le z hb.size,by rw [hk]; exact r0,by rw [hk]; exact r1,by rw [hk]; exact r2,by rw [hf]; exact f0,by rw [hf]; exact f1,by rw [hf]; exact f2⟩
section
attribute [local go_sem ↓] keptM_load keptM_store keptM_alloc keptM_build
set_option maxHeartbeats 4000000 in
theorem answers_any (w:World)(hS:SaidM w):Calls Tryz.prog 9 #[] w fun e w'=>e=.returned (.bool true)∧Below w.heap.size w w':=by
 have HS:=hide hS
 clear hS
 go_enter Tryz.func9,Tryz.ntmps9
 go_wp2_with (refine keptM_build1_intro 0 _ (.int .i64 4) (.agg (msgC 4 0 0 (.slice none 0 0))) (by rfl) (run_buildkM 4 _) ?_)
 refine (enc_alive w).mono ?_
 rintro e w1 ⟨⟨b,o,sp⟩,c,rfl,hc,hsp,HR,HB⟩
 simp only at hsp
 subst hsp
 have HS1:=hide (HS.out.below HB.out)
 go_wp2_with fail
 refine (dec_alive b o c aliveB w1 alive_len hc HR.out HS1.out alive_head rfl).mono ?_
 rintro e w2 ⟨a9,c9,rfl,hb2⟩
 have HB2:Hid (Below w1.heap.size w1 w2):=hb2
 clear hb2
 obtain ⟨W5,hst,hx,hy,hb5⟩:=store_both w2 (msgC 4 0 0 (.slice none 0 0)) (MC.msg 4 0 0 none 0 0)
 have HY:=hide hy
 have HB5:=hide hb5
 have hz5:w2.heap.size+1 < W5.heap.size:=hx.1
 obtain ⟨_,r0,r1,r2,f0,f1,f2⟩:=hx
 have HST:=hide hst
 clear hst hy hb5
 go_wp2_with (first | (refine keptM_alloc_intro _ (run_allocM w2) ?_) | (refine keptM_store_intro _ _ (.pointer (some ⟨w2.heap.size,0,none⟩)) (.agg (msgC 4 0 0 (.slice none 0 0))) (by rfl) (by rfl) HST.out ?_))
 have n0:(((W5.setCell ⟨w2.heap.size+1,0,none⟩ (.int .i64 0)).setCell ⟨w2.heap.size+1,1,none⟩ (.int .i64 0)).setCell ⟨w2.heap.size+1,2,none⟩ (.slice a9 0 c9)).cell? ⟨w2.heap.size+1,0,none⟩=some (.int .i64 0):=by simp [go_sem,r0]
 have k0:(((W5.setCell ⟨w2.heap.size+1,0,none⟩ (.int .i64 0)).setCell ⟨w2.heap.size+1,1,none⟩ (.int .i64 0)).setCell ⟨w2.heap.size+1,2,none⟩ (.slice a9 0 c9)).cell? ⟨w2.heap.size,0,none⟩=some (.int .i64 4):=by
  have h9:W5.cell? ⟨w2.heap.size,0,none⟩=some (.int .i64 4):=range_of HY.out 0 _ rfl
  simp [go_sem,h9]
 have HB7:Hid (Below w2.heap.size w2 (((W5.setCell ⟨w2.heap.size+1,0,none⟩ (.int .i64 0)).setCell ⟨w2.heap.size+1,1,none⟩ (.int .i64 0)).setCell ⟨w2.heap.size+1,2,none⟩ (.slice a9 0 c9))):=((HB5.out.setCell (by simp) _).setCell (by simp) _).setCell (by simp) _
 have hz7:w2.heap.size+1 < (((W5.setCell ⟨w2.heap.size+1,0,none⟩ (.int .i64 0)).setCell ⟨w2.heap.size+1,1,none⟩ (.int .i64 0)).setCell ⟨w2.heap.size+1,2,none⟩ (.slice a9 0 c9)).heap.size:=by simpa using hz5
 clear r0 r1 r2 f0 f1 f2 hz5 HY HB5 HST
 generalize (((W5.setCell ⟨w2.heap.size+1,0,none⟩ (.int .i64 0)).setCell ⟨w2.heap.size+1,1,none⟩ (.int .i64 0)).setCell ⟨w2.heap.size+1,2,none⟩ (.slice a9 0 c9))=W7 at *
 have HBA:Hid (Below w1.heap.size w1 W7):=HB2.out.trans (HB7.out.mono HB2.out.size)
 have KH:=head_any (some ⟨b,o,none⟩) c aliveB W7 (by rw [alive_len]; decide) (by rw [alive_len]; exact hc) (HR.out.below HBA.out) (HS1.out.below HBA.out)
 rw [alive_head,alive_len] at KH
 refine KH.mono ?_
 clear KH
 rintro e w8 ⟨⟨u,rfl,a8,c8,rfl,_⟩,hb8⟩
 have m0:w8.cell? ⟨w2.heap.size+1,0,none⟩=some (.int .i64 0):=by rw [hb8.cell (p:=⟨w2.heap.size+1,0,none⟩) hz7]; exact n0
 have m1:w8.cell? ⟨w2.heap.size,0,none⟩=some (.int .i64 4):=by rw [hb8.cell (p:=⟨w2.heap.size,0,none⟩) (by show w2.heap.size < _; omega)]; exact k0
 have hz8:w2.heap.size+1 < w8.heap.size:=Nat.lt_of_lt_of_le hz7 hb8.size
 have hz8':w2.heap.size < w8.heap.size:=by omega
 have HB8:Hid (Below w.heap.size w w8):=HB.out.trans ((HBA.out.mono HB.out.size).trans (hb8.mono (by have:=HB.out.size; have:=HBA.out.size; omega)))
 clear hb8 n0 k0 hz7
 simp only at *
 go_wp2
 go_ret
 exact ⟨rfl,HB8.out.alloc (by have:=HB8.out.size; omega) _⟩
end
end Go.Proofs.YtogbjeaceboemaaGreatDoor
