import Derived.Test.YtdojlejehjbliaaGreatDoorPA3
import Derived.OrdersHeld
namespace Go.Proofs.YtdojlejehjbliaaGreatDoor
open _root_.Go.Proofs.Tryz renaming prog → I
open _root_.Option renaming some → J,none → Y
open _root_.Go.Value renaming slice → V,int → U
open _root_.Go.IntKind renaming i64 → Z
open Go.ChangeShapes Go.WideShapes Go.ChangeAt Go.RowKit
set_option maxRecDepth 100000
theorem gSaidA:I.globalNamed "interregnum/attr.said" = J 1:=by kernel_rfl
theorem gSaidAType:(I.globals[1]?).map (·.type)=J 164:=by kernel_rfl
theorem cellsTabA:I.cellsOf 164=36:=by kernel_rfl
theorem cellsRowA:I.cellsOf 163=4:=by kernel_rfl
theorem cellsIntA:I.cellsOf 3=1:=by kernel_rfl
set_option maxRecDepth 100000 in
/-- A row of the table, cell for cell. -/
theorem Qyi {w:World}{base:Nat}{sp:Nat→Bool}{held:Bool}{fuel:Nat}{cs:List Value}{z0 z1 z2 z3:Int}{x:DataW Unit×List MemPlace} (hl:cs.length=4)
  (h:DataW.trod (fun _=>()) I w base sp held fuel 163 cs=J x) (hx:x.1=.agg [.lit (.int Z z0),.lit (.int Z z1),.lit (.int Z z2),.lit (.int Z z3)]) :
  cs=[U Z z0,U Z z1,U Z z2,U Z z3]:=by
 obtain ⟨xs,k,_,hxe,_,hxl,hf⟩:=DataW.trod_struct Tryz.underlying163 h
 have hxl4:xs.length=4:=hxl
 clear hxl
 match xs,hxl4,cs,hl with
 | [y0,y1,y2,y3],_,[c0,c1,c2,c3],_ =>
  have g0:=hf 0 _ rfl
  have g1:=hf 1 _ rfl
  have g2:=hf 2 _ rfl
  have g3:=hf 3 _ rfl
  simp [cellsIntA] at g0 g1 g2 g3
  obtain ⟨n0,e0,q0,_⟩:=DataW.trod_int Tryz.underlying3 g0
  obtain ⟨n1,e1,q1,_⟩:=DataW.trod_int Tryz.underlying3 g1
  obtain ⟨n2,e2,q2,_⟩:=DataW.trod_int Tryz.underlying3 g2
  obtain ⟨n3,e3,q3,_⟩:=DataW.trod_int Tryz.underlying3 g3
  rw [hxe,q0,q1,q2,q3] at hx
  simp at hx e0 e1 e2 e3
  obtain ⟨rfl,rfl,rfl,rfl⟩:=hx
  rw [e0,e1,e2,e3]
theorem Qxw {W:World}(h:laidMet I [("interregnum/attr.said",Rows.laid_interregnum_attr_said),("interregnum/msg.said",Rows.laid_interregnum_msg_said)] W):Qfa W:=by
 obtain ⟨ps,⟨g,t,cs,fuel,p,q,hg,ht,hvar,hd,_,_⟩,_⟩:=h
 obtain rfl:=Option.some.inj (gSaidA.symm.trans hg)
 obtain rfl:=Option.some.inj (gSaidAType.symm.trans ht)
 obtain ⟨xs,m,_,hxe,hlen,hxl,hrow⟩:=DataW.trod_array Tryz.underlying164 hd
 rw [cellsTabA] at hlen
 have hsz:cs.size=36:=by simpa using hlen
 have hxs:xs.map (·.1)=(match (Rows.laid_interregnum_attr_said:DataW Unit) with | .agg l=>l | _=>[]):=by
  have:=congrArg Prod.fst hxe
  unfold Rows.laid_interregnum_attr_said at this ⊢
  simp only [DataW.agg.injEq] at this
  exact this.symm
 have key:∀ i,i < 9→(cs.toList.drop (i * 4)).take 4=[U Z (saidL.getD (i * 4) 0),U Z (saidL.getD (i * 4+1) 0),U Z (saidL.getD (i * 4+2) 0),U Z (saidL.getD (i * 4+3) 0)]:=fun i hi=>by
  have hr:=hrow i hi
  rw [cellsRowA,List.getElem?_eq_getElem (by omega)] at hr
  refine Qyi (by simp; omega) hr ?_
  have h9:(xs.map (·.1))[i]?=J (xs[i]'(by omega)).1:=by rw [List.getElem?_map,List.getElem?_eq_getElem (by omega)]; rfl
  rw [hxs] at h9
  rcases (by omega:i=0∨i=1∨i=2∨i=3∨i=4∨i=5∨i=6∨i=7∨i=8) with rfl | rfl | rfl | rfl | rfl | rfl | rfl | rfl | rfl <;> exact (Option.some.inj h9).symm
 intro k z hk
 have hk36:k < 36:=by have:=(List.getElem?_eq_some_iff.1 hk).1; simpa [saidL] using this
 rw [World.var?_cell hg hvar k,← Array.getElem?_toList]
 have hz:saidL.getD k 0=z:=by rw [List.getD_eq_getElem?_getD,hk]; rfl
 have h9:=congrArg (fun l=>l[k % 4]?) (key (k / 4) (by omega))
 simp only [List.getElem?_take,List.getElem?_drop] at h9
 rw [if_pos (by omega),show k / 4 * 4+k % 4=k by omega] at h9
 rw [h9,← hz]
 rcases (by omega:k % 4=0∨k % 4=1∨k % 4=2∨k % 4=3) with e | e | e | e
 ·rw [e,show k=k / 4 * 4 by omega]; simp;
 ·rw [e]; conv=>rhs; rw [show k=k / 4 * 4+1 by omega]
  simp
 ·rw [e]; conv=>rhs; rw [show k=k / 4 * 4+2 by omega]
  simp
 ·rw [e]; conv=>rhs; rw [show k=k / 4 * 4+3 by omega]
  simp
set_option linter.unusedVariables false
set_option maxRecDepth 100000 in
theorem Qkr (os:Os):laidMet I Rows.streamCutsRow.laid ((laidWM os).forCall (fun _ _=>0) ⟨#[],#[V Y 0 0,V Y 0 0],[]⟩).memory :=
 laidMet_of_run' 8 (by kernel_rfl) (by kernel_rfl)
set_option maxRecDepth 100000 in
theorem Qi8 (os:Os){H:Type}(enc:TypeId×Value→H):DataW.whole enc I ((laidWM os).forCall (fun _ _=>0) ⟨#[],#[V Y 0 0,V Y 0 0],[]⟩).memory Tryz.f4.params.toList Rows.streamCutsSpec.vars false (#[V Y 0 0,V Y 0 0]:Array Value).toList 8=J ([.nil,.nil],[],[]):=by kernel_rfl
set_option maxRecDepth 100000 in
theorem Qi5 (walk:∀ (b0:Option Addr) (c0:Nat) (bs0:List Nat) (b1:Option Addr) (c1:Nat) (bs1:List Nat) (W:World),Qdb W→Qfa W→bs0.length≤c0→BRd W b0 bs0→bs1.length≤c1→BRd W b1 bs1→Calls I 4 #[V b0 bs0.length c0,V b1 bs1.length c1] W fun e W'=>e=.returned (.bool true)∧Below W.heap.size W W')(os:Os)(started:os.Started)(H:Type)(enc:TypeId×Value→H)(F:Stop.Interp) :
  ReturnsInHanded {} Tryz.checked os 4 .any ((OpenSpec.ofChange Rows.streamCutsSpec).preRow enc I Tryz.f4 Rows.streamCutsRow.domain false Rows.streamCutsRow.laid) (((OpenSpec.ofChange Rows.streamCutsSpec).at F).post enc I Tryz.f4 false true false false):=by
 refine returnsInHanded_of_row (C:=Tryz.checked) (s:=OpenSpec.ofChange Rows.streamCutsSpec) ownKnob_no started (by kernel_rfl) Tryz.func4
  (witness_row_at (enc:=enc) (C:=Tryz.checked) false (laidWM os) #[V Y 0 0,V Y 0 0] rfl (by kernel_rfl) (by kernel_rfl) (by kernel_rfl)
   (OpenSpec.preRow_of_cond 8 (Qi8 os enc) (by kernel_rfl) (fun k hk=>by cases hk) (by kernel_rfl) (Qkr os))) ?_
 intro W base args ds gs before hval0 hW hcnd _ hsz0 hL _ _
 have hval:∀ (j:Nat) t v,Tryz.f4.params[j]?=J t→args[j]?=J v→Value.okWide I W .any base t v:=hval0
 have hW':=hW
 obtain ⟨p,q,hA0,hV,rfl,hfz,hnd⟩:=hW
 have hA:DataW.TrodAll enc I W 0 (fun _=>true) true Tryz.f4.params.toList args.toList ds p:=hA0
 rw [Tryz.params4] at hA hval
 obtain ⟨v0,vs0,d0,ds0,p0,q0,hargs,rfl,rfl,h0,r0⟩:=trodAll_cons hA
 obtain ⟨v1,vs1,d1,ds1,p1,q1,rfl,rfl,rfl,h1,r1⟩:=trodAll_cons r0
 obtain ⟨rfl,rfl,rfl⟩:=trodAll_nil r1
 obtain rfl:args=#[v0,v1]:=by cases args; simp_all
 obtain ⟨rfl,rfl⟩:=trodVars_none hV
 have k0:=h0
 have lt0:∀ x∈p0,x.block < W.heap.size:=by obtain ⟨m,hm⟩:=k0; exact DataW.trod_lt m _ _ _ hm
 obtain ⟨b0,len0,c0,rfl⟩:=okWide_slice Tryz.underlying22 (hval 0 22 v0 rfl rfl)
 obtain ⟨bs0,rfl,hc0,hd0⟩:∃ bs:List Nat,bs.length=len0∧bs.length≤c0∧BRd W b0 bs:=by
  obtain ⟨fuel,hf⟩:=h0
  obtain ⟨a,c,zs,e,h1,h2,h3,_,_⟩:=Qq1 hf
  simp only [Value.slice.injEq] at e
  obtain ⟨rfl,rfl,rfl⟩:=e
  exact ⟨zs,rfl,h1,h2,h3⟩
 have k1:=h1
 have lt1:∀ x∈p1,x.block < W.heap.size:=by obtain ⟨m,hm⟩:=k1; exact DataW.trod_lt m _ _ _ hm
 obtain ⟨b1,len1,c1,rfl⟩:=okWide_slice Tryz.underlying22 (hval 1 22 v1 rfl rfl)
 obtain ⟨bs1,rfl,hc1,hd1⟩:∃ bs:List Nat,bs.length=len1∧bs.length≤c1∧BRd W b1 bs:=by
  obtain ⟨fuel,hf⟩:=h1
  obtain ⟨a,c,zs,e,h1,h2,h3,_,_⟩:=Qq1 hf
  simp only [Value.slice.injEq] at e
  obtain ⟨rfl,rfl,rfl⟩:=e
  exact ⟨zs,rfl,h1,h2,h3⟩
 clear hA0 hval0 hsz0
 refine (walk b0 c0 bs0 b1 c1 bs1 W (Qxo hL) (Qxw hL) hc0 hd0 hc1 hd1).mono fun e W' ⟨he,bel⟩=>?_
 subst he
 exact ⟨_,rfl,_,_,_,[],_,[],hW',trodAll_mk1 (shut_bool Tryz.underlying4 _),(trodAll_cons_mk (Below.trod laid_all (by kernel_rfl) (of_decide_eq_true (by kernel_rfl)) k0 bel lt0) (trodAll_cons_mk (Below.trod laid_all (by kernel_rfl) (of_decide_eq_true (by kernel_rfl)) k1 bel lt1) trodAll_mk0)),rfl,bel.frame _,fun h=>by cases h⟩
theorem Qke (walk:∀ (b0:Option Addr) (c0:Nat) (bs0:List Nat) (b1:Option Addr) (c1:Nat) (bs1:List Nat) (W:World),Qdb W→Qfa W→bs0.length≤c0→BRd W b0 bs0→bs1.length≤c1→BRd W b1 bs1→Calls I 4 #[V b0 bs0.length c0,V b1 bs1.length c1] W fun e W'=>e=.returned (.bool true)∧Below W.heap.size W W'):Rows.streamCutsRow.holds Tryz.pinned (OpenSpec.ofChange Rows.streamCutsSpec) :=
 OpenClaim.holds_of_cond 4 Tryz.f4 rfl rfl rfl rfl rfl rfl rfl ⟨rfl,rfl,rfl,rfl,rfl⟩ rfl rfl rfl rfl rfl (by kernel_rfl) Tryz.func4 (by kernel_rfl)
  (of_decide_eq_true (by kernel_rfl)) (by unfold Func.isWrapper; first | (rw [if_pos (by decide +kernel)]; kernel_rfl) | (rw [if_neg (by decide +kernel)]; exact ⟨rfl,rfl⟩))
  (fun os started H enc _ F=>by rw [OpenClaim.pre_eq_preRow]; exact Qi5 walk os started H enc F)
theorem Qi7 (f:FuncId)(fn:Func)(hf:Tryz.pinned.checked.prog.funcNamed "interregnum/interregnumlaw10.StreamCuts" = J f)(hfn:Tryz.pinned.checked.prog.funcs[f]?=J fn) :
  true=Tryz.pinned.checked.prog.looks []∧∀ (j:Nat) t,fn.params[j]?=J t→Tryz.pinned.checked.prog.wantsStandIn t=false:=by
 obtain rfl:f=4:=Option.some.inj ((show I.funcNamed "interregnum/interregnumlaw10.StreamCuts" = J 4 by kernel_rfl).symm.trans hf) |>.symm
 obtain rfl:fn=Tryz.f4:=(Option.some.inj (Tryz.func4.symm.trans hfn)).symm
 refine ⟨by kernel_rfl,fun j t ht=>?_⟩
 rw [Tryz.params4] at ht
 have hm:=Array.mem_of_getElem? ht
 simp only [List.mem_toArray,List.mem_cons,List.not_mem_nil,or_false] at hm
 rcases hm with rfl | rfl
 ·exact (show I.wantsStandIn 22=false by kernel_rfl)
 ·exact (show I.wantsStandIn 22=false by kernel_rfl)
theorem Qie (walk:∀ (b0:Option Addr) (c0:Nat) (bs0:List Nat) (b1:Option Addr) (c1:Nat) (bs1:List Nat) (W:World),Qdb W→Qfa W→bs0.length≤c0→BRd W b0 bs0→bs1.length≤c1→BRd W b1 bs1→Calls I 4 #[V b0 bs0.length c0,V b1 bs1.length c1] W fun e W'=>e=.returned (.bool true)∧Below W.heap.size W W'):Rows.StreamCutsCardSaid :=
 Claim7.holds_tied_plain_at .later [] _ _ _ _ (Qke walk) (fun _ h=>by cases h) (by kernel_rfl) (fun _ h=>by cases h) streamCuts_row_tie rfl ⟨rfl,rfl⟩ (by kernel_rfl) rfl Qi7 (by kernel_rfl)
open Go.RowKit
def Qbt (k c s:Int)(v:Value):Array Value:=#[U Z k,U Z 0,U Z 0,U .u32 0,.bool false,U Z 0,.bool false,.bool false,U Z 0,.bool false,.bool false,.bool false,U Z 0,V Y 0 0,U Z 0,V Y 0 0,U .u32 0,U Z 0,U Z 0,V Y 0 0,V Y 0 0,V Y 0 0,U Z c,U Z s,v]
def MC (C:Array Value):Prop:=C.size=25∧C.all (·.oneCell')=true
def zM:Array Value:=Qbt 0 0 0 (V Y 0 0)
theorem MC.msg (k c s:Int)(a:Option Addr)(n cap:Nat):MC (Qbt k c s (V a n cap)):=⟨rfl,by simp [Qbt,Value.oneCell']⟩
theorem MC.zero:MC zM:=MC.msg 0 0 0 Y 0 0
section
variable {P:Program}{a:Act}{w w':World}{K:Act→World→Prop}{Q:Exit→Act→World→Prop}{dst:Option Tmp}{ty:TypeId}{pos:String}{after:Array Edge}{gd:Option (Nat×Bool)}
theorem Qbe (x:Operand):Oper.wp P { dst:=dst,op:=.load 40 x,type:=ty,pos:=pos,after:=after,guard:=gd } a w K Q=Qdl P { dst:=dst,op:=.load 40 x,type:=ty,pos:=pos,after:=after,guard:=gd } a w K Q:=rfl
theorem Qba (x y:Operand):Oper.wp P { dst:=dst,op:=.store 40 x y,type:=ty,pos:=pos,after:=after,guard:=gd } a w K Q=Qdl P { dst:=dst,op:=.store 40 x y,type:=ty,pos:=pos,after:=after,guard:=gd } a w K Q:=rfl
theorem Qni (x:Operand):Oper.wp P { dst:=dst,op:=.box 40 x,type:=ty,pos:=pos,after:=after,guard:=gd } a w K Q=Qdl P { dst:=dst,op:=.box 40 x,type:=ty,pos:=pos,after:=after,guard:=gd } a w K Q:=rfl
theorem keptM_alloc:Oper.wp P { dst:=dst,op:=.alloc 40,type:=ty,pos:=pos,after:=after,guard:=gd } a w K Q=Qdl P { dst:=dst,op:=.alloc 40,type:=ty,pos:=pos,after:=after,guard:=gd } a w K Q:=rfl
theorem Qbb (xs:Array (Nat×Operand)):Oper.wp P { dst:=dst,op:=.build 40 xs,type:=ty,pos:=pos,after:=after,guard:=gd } a w K Q=Qdl P { dst:=dst,op:=.build 40 xs,type:=ty,pos:=pos,after:=after,guard:=gd } a w K Q:=rfl
theorem Qbq (x:Operand)(p v:Value)(hx:a.eval x=p)(hr:(Instr.loadAt 40 p).run P w=.ok v w)(h:K (a.put dst v) w):Qdl P { dst:=dst,op:=.load 40 x,type:=ty,pos:=pos,after:=after,guard:=gd } a w K Q:=by
 unfold Qdl Oper.wp execOp
 simp only [hx,Sem.run_bind,hr,Result.andThen_ok,Sem.run_pure]
 exact h
theorem Qam (x y:Operand)(p v:Value)(hx:a.eval x=p)(hy:a.eval y=v)(hr:(Instr.storeAt 40 p v).run P w=.ok () w')(h:K (a.put dst undef) w'):Qdl P { dst:=dst,op:=.store 40 x y,type:=ty,pos:=pos,after:=after,guard:=gd } a w K Q:=by
 unfold Qdl Oper.wp execOp
 simp only [hx,hy,Sem.run_bind,hr,Result.andThen_ok,Sem.run_pure]
 exact h
theorem Qe0 (x:Operand)(v r:Value)(hx:a.eval x=v)(hr:(Instr.box 40 v).run P w=.ok r w')(h:K (a.put dst r) w'):Qdl P { dst:=dst,op:=.box 40 x,type:=ty,pos:=pos,after:=after,guard:=gd } a w K Q:=by
 unfold Qdl Oper.wp execOp
 simp only [hx,Sem.run_bind,hr,Result.andThen_ok,Sem.run_pure]
 exact h
theorem Qah (v:Value)(hr:(Instr.alloc 40 true (.tuple #[])).run P w=.ok v w')(h:K (a.put dst v) w'):Qdl P { dst:=dst,op:=.alloc 40,type:=ty,pos:=pos,after:=after,guard:=gd } a w K Q:=by
 unfold Qdl Oper.wp execOp
 simp only [Sem.run_bind,hr,Result.andThen_ok,Sem.run_pure]
 exact h
theorem Qaw (v:Value)(hr:(Instr.build 40 #[]).run P w=.ok v w)(h:K (a.put dst v) w):Qdl P { dst:=dst,op:=.build 40 #[],type:=ty,pos:=pos,after:=after,guard:=gd } a w K Q:=by
 unfold Qdl Oper.wp execOp
 have e:((#[]:Array (Nat×Operand)).map fun (i,x)=>(i,a.eval x))=#[]:=by simp
 simp only [e,Sem.run_bind,hr,Result.andThen_ok,Sem.run_pure]
 exact h
theorem Qhw (i:Nat)(x:Operand)(p v:Value)(hx:a.eval x=p)(hr:(Instr.build 40 #[(i,p)]).run P w=.ok v w)(h:K (a.put dst v) w):Qdl P { dst:=dst,op:=.build 40 #[(i,x)],type:=ty,pos:=pos,after:=after,guard:=gd } a w K Q:=by
 unfold Qdl Oper.wp execOp
 have e:(#[(i,x)].map fun (i,x)=>(i,a.eval x))=#[(i,p)]:=by simp [hx]
 simp only [e,Sem.run_bind,hr,Result.andThen_ok,Sem.run_pure]
 exact h
end
theorem infoM:(I.info? 40).map (·.size)=J 25:=by kernel_rfl
theorem Qlp (C:Array Value)(w:World):(Instr.box 40 (.agg C)).run I w=.ok (.pointer (J ⟨w.heap.size,0,Y⟩)) (w.alloc (.cells C 40)):=by
 simp [Instr.box,newVar,go_sem,Value.cells]
theorem Qav (w:World):(Instr.alloc 40 true (.tuple #[])).run I w=.ok (.pointer (J ⟨w.heap.size,0,Y⟩)) (w.alloc (.cells zM 40)):=by kernel_rfl
theorem Qbp (w:World):(Instr.build 40 #[]).run I w=.ok (.agg zM) w:=by kernel_rfl
theorem Qg6 (k:Int)(w:World):(Instr.build 40 #[(0,U Z k)]).run I w=.ok (.agg (Qbt k 0 0 (V Y 0 0))) w:=by kernel_rfl
theorem Qai {w:World}{g:Nat}{C:Array Value}{t:TypeId}{f:Nat×Nat} (h:w.heap[g]?=J (.cells C t f)):w.rangeAt g 0 C.toList:=by
 intro j v hv
 unfold World.cell?
 simp only [h]
 rw [Array.getElem?_toList] at hv
 simp [hv]
theorem Qgc {w:World}{g:Nat}{C:Array Value} (h:w.rangeAt g 0 C.toList) (hC:MC C):(Instr.loadAt 40 (.pointer (J ⟨g,0,Y⟩))).run I w=.ok (.agg C) w:=by
 have:=run_loadAt_mid (P:=I) w g 0 40 C.toList _ h Tryz.underlying40 rfl (by rw [infoM]; simp [hC.1])
 simpa using this
theorem Qek {w:World}{g:Nat}{c:Array Value}{t:TypeId} (h:w.heap[g]?=J (.cells c t (0,0))) (n:Nat) (hn:n≤c.size):w.there g 0 n:=fun j hj=>by
 refine ⟨?_,?_⟩
 ·simp only [World.cell?,h,Nat.zero_add]
  rw [Array.getElem?_eq_getElem (by omega)]
  rfl
 ·simp [World.frozen?,h]
theorem Qd7 {w:World}{g:Nat}{C C0:Array Value}{t:TypeId} (h:w.heap[g]?=J (.cells C0 t (0,0))) (h0:C0.size=25) (hC:MC C):(Instr.storeAt 40 (.pointer (J ⟨g,0,Y⟩)) (.agg C)).run I w=.ok () (w.setCells g 0 C.toList) :=
 run_storeAt_mid (P:=I) w g 0 40 C (Qek h _ (by rw [hC.1,h0]; omega)) (by rw [infoM,hC.1]) hC.2
section
variable {P:Program}{ops:Array Oper}{Q:Exit→Act→World→Prop}{S:World→Prop}{L:Nat→Bool}
def Qkn (P:Program)(ops:Array Oper)(Q:Exit→Act→World→Prop)(S:World→Prop)(L:Nat→Bool):List Nat→Act→World→Prop
 | [],a,w=>Q .normal a w
 | k :: l,a,w=>if L k=true then wpOp P ops Q k (fun a' w'=>S w'∧Qkn P ops Q S L l a' w') a w else ∃ o v,ops[k]?=J o∧YieldsIf P ops S o v a∧Qkn P ops Q S L l (a.put o.dst v) w
def Qp9 (ops:Array Oper)(L:Nat→Bool):List Nat→Array Bool→Bool
 | [],listed=>(Region.ready .any ops listed).isEmpty
 | k :: l,listed=>(if L k then decide (Region.ready .any ops listed=[k]) else (Region.ready .any ops listed).contains k && Region.free .any ops listed k) && Qp9 ops L l (listed.setIfInBounds k true)
theorem Qmf (hs:Region.noSelect ops=true)(hQ:∀ c a a' w,Q (.panic c) a w→Q (.panic c) a' w):∀ (l:List Nat) (listed:Array Bool) (a:Act) (w:World),Qp9 ops L l listed=true→S w →
  Qkn P ops Q S L l a w→wpAnyH P .any ops Q S l.length listed a w
 | [],_,_,_,hB,_,h=>⟨by simpa [Qp9] using hB,h⟩
 | k :: l,listed,a,w,hB,hS,h=>by
  simp only [Qp9,Bool.and_eq_true] at hB
  obtain ⟨hr,hB'⟩:=hB
  rw [Qkn] at h
  by_cases e:L k=true
  ·rw [if_pos e] at hr h
   have hr2:Region.ready .any ops listed=[k]:=by simpa using hr
   refine wpAnyH_all hr2 (by simp) fun i hi=>?_
   obtain rfl:i=k:=by simpa using hi
   exact wpOp_mono (fun a' w' h9=>⟨h9.1,Qmf hs hQ l _ a' w' hB' h9.1 h9.2⟩) h
  ·rw [if_neg e] at h
   rw [if_neg e,Bool.and_eq_true] at hr
   obtain ⟨o,v,h0,hy,h⟩:=h
   exact wpAnyH_take h0 hs hr.2 hr.1 (fun _ _ _ h=>hQ _ _ _ _ h) hy hS (Qmf hs hQ l _ _ w hB' hS h)
theorem Jb9 {o:Oper}{l:List Nat}{k:Nat}{a a':Act}{w:World}{v:Value} (hL:L k=false) (ho:ops[k]?=J o) (hw:Region.wanted o (yielded ops a.tmps)=true) (hy:∀ w,S w→(execOp a.eval o).run P w=.ok (.value v) w) (ha:a.put o.dst v=a') (h:Qkn P ops Q S L l a' w) :
  Qkn P ops Q S L (k :: l) a w:=by
 rw [Qkn,if_neg (by rw [hL]; simp)]
 exact ⟨o,v,ho,.inl ⟨hw,hy⟩,by rw [ha]; exact h⟩
theorem Jb7 {o:Oper}{l:List Nat}{k:Nat}{a:Act}{w:World} (hL:L k=true) (ho:ops[k]?=J o) (hw:Region.wanted o (yielded ops a.tmps)=true) (h:o.wp P a w (fun a' w'=>S w'∧Qkn P ops Q S L l a' w') Q) :
  Qkn P ops Q S L (k :: l) a w:=by
 rw [Qkn,if_pos hL]
 unfold wpOp
 rw [ho]
 simp only [hw,if_true]
 exact .inl h
end
structure Fr (L:List Nat) (b a:Act):Prop where
 defers:a.defers=b.defers
 size:a.tmps.size=b.tmps.size
 out:∀ t,t ∉ L→a.tmps[t]?=b.tmps[t]?
theorem Fr.refl (L:List Nat)(b:Act):Fr L b b:=⟨rfl,rfl,fun _ _=>rfl⟩
theorem Qab {a:Act}{s t:Nat} (v:Value) (h:s≠t):(a.put (J s) v).tmps[t]?=a.tmps[t]?:=by
 simp [Act.put,Array.getElem?_setIfInBounds_ne h]
theorem Qak {a:Act}{t:Nat} (v:Value) (h:t < a.tmps.size):(a.put (J t) v).tmps[t]?=J v:=by
 simp [Act.put,h]
theorem Qaf {a:Act}{t:Nat}{v:Value} (h:a.tmps[t]?=J v):a.eval (.tmp t)=v:=by
 show a.tmps.getD t undef=v
 rw [Array.getD_eq_getD_getElem?,h]
 rfl
theorem Fr.put {L:List Nat}{b a:Act} (h:Fr L b a) {t:Nat} (ht:t∈L) (v:Value):Fr L b (a.put (J t) v) :=
 ⟨h.defers,by simp [Act.put,h.size],fun s hs=>by rw [Qab v (by rintro rfl; exact hs ht)]; exact h.out s hs⟩
theorem Fr.slot {L:List Nat}{b a:Act} (h:Fr L b a) {t:Nat}{v:Value} (ht:t ∉ L) (hv:b.tmps[t]?=J v):a.tmps[t]?=J v:=by
 rw [h.out t ht,hv]
theorem Fr.eq {b a:Act} : ∀ {l:List (Nat×Value)}{c:Act},c.defers=b.defers→a.defers=b.defers→a.tmps.size=c.tmps.size→(∀ t,t ∉ l.map Prod.fst→a.tmps[t]?=c.tmps[t]?)→(∀ p∈l,a.tmps[p.1]?=J p.2)→a=l.foldl (fun x p=>x.put (J p.1) p.2) c
 | [],c,h0,h1,h2,h3,_=>by
  obtain ⟨at1,ad⟩:=a
  obtain ⟨ct,cd⟩:=c
  simp only at h0 h1 h2 h3
  subst h0 h1
  have:at1=ct:=Array.ext_getElem? fun t=>h3 t (by simp)
  rw [this]
  rfl
 | p :: r,c,h0,h1,h2,h3,h4=>by
  refine Fr.eq (l:=r) (c:=c.put (J p.1) p.2) h0 h1 (by rw [h2]; simp [Act.put]) (fun t ht=>?_) (fun q hq=>h4 q (List.mem_cons_of_mem _ hq))
  by_cases e:p.1=t
  ·subst e
   have h5:=h4 p List.mem_cons_self
   rw [h5,Qak]
   rw [← h2]
   exact (Array.getElem?_eq_some_iff.1 h5).1
  ·rw [Qab _ e]
   exact h3 t (by simp only [List.map_cons,List.mem_cons,not_or]; exact ⟨fun h=>e h.symm,ht⟩)
section
variable {P:Program}{ops:Array Oper}{Q:Exit→Act→World→Prop}
theorem Qbo {i:Nat}{o:Oper}{K:Act→World→Prop}{a:Act}{w:World} (hi:ops[i]?=J o) (hg:o.guard=Y) (h:o.wp P a w K Q):wpOp P ops Q i K a w:=by
 unfold wpOp
 simp only [hi]
 rw [if_pos (by unfold Region.wanted; rw [hg])]
 exact .inl h
theorem Qao {S:World→Prop}{md:Region.Mode}{i d:Nat}{oi:Oper}{v:Value}{fuel:Nat}{listed:Array Bool}{a:Act}{w:World} (hi:ops[i]?=J oi) (hd:oi.dst=J d) (hg:oi.guard=Y)
  (hs:Region.noSelect ops=true) (hf:Region.free md ops listed i=true) (hr:(Region.ready md ops listed).contains i=true)
  (hQ:∀ c a a' w,Q (.panic c) a w→Q (.panic c) a' w) (hy:∀ w,S w→(execOp a.eval oi).run P w=.ok (.value v) w) (hS:S w)
  (h:wpAnyH P md ops Q S fuel (listed.setIfInBounds i true) (a.put (J d) v) w):wpAnyH P md ops Q S (fuel+1) listed a w :=
 wpAnyH_take hi hs hf hr (fun _ _ _ h=>hQ _ _ _ _ h) (.inl ⟨by unfold Region.wanted; rw [hg],hy⟩) hS (by rw [hd]; exact h)
theorem Qdg (a:Act)(w:World)(o:Oper)(x:Operand)(v:Value)(ho:o.op=.move x)(hx:a.eval x=v):(execOp a.eval o).run P w=.ok (.value v) w:=by
 unfold execOp
 rw [ho]
 simp only [hx]
 rfl
end
section
variable {P:Program}{ops:Array Oper}{Q:Exit→Act→World→Prop}{S:World→Prop}
def Qok (P:Program)(ops:Array Oper)(S:World→Prop)(K:Act→Prop):List Nat→Act→Prop
 | [],a=>K a
 | k :: r,a=>∃ o v,ops[k]?=J o∧YieldsIf P ops S o v a∧Qok P ops S K r (a.put o.dst v)
def Qz8 (ops:Array Oper):List Nat→Array Bool→Bool
 | [],_=>true
 | k :: r,listed=>(Region.ready .any ops listed).contains k && Region.free .any ops listed k && Qz8 ops r (listed.setIfInBounds k true)
def preL:List Nat→Array Bool→Array Bool
 | [],listed=>listed
 | k :: r,listed=>preL r (listed.setIfInBounds k true)
theorem Qqv (hs:Region.noSelect ops=true)(hQ:∀ c a a' w,Q (.panic c) a w→Q (.panic c) a' w){w:World}(hS:S w){f:Nat} : ∀ (l:List Nat) (listed:Array Bool) (a:Act),Qz8 ops l listed=true →
  Qok P ops S (fun a'=>wpAnyH P .any ops Q S f (preL l listed) a' w) l a→wpAnyH P .any ops Q S (f+l.length) listed a w
 | [],_,_,_,h=>h
 | k :: r,listed,a,hB,h=>by
  simp only [Qz8,Bool.and_eq_true] at hB
  obtain ⟨o,v,ho,hy,h⟩:=h
  exact wpAnyH_take ho hs hB.1.2 hB.1.1 (fun _ _ _ h=>hQ _ _ _ _ h) hy hS (Qqv hs hQ hS r _ _ hB.2 h)
theorem Jcc {K:Act→Prop}{o:Oper}{l:List Nat}{k:Nat}{a a':Act}{v:Value} (ho:ops[k]?=J o) (hw:Region.wanted o (yielded ops a.tmps)=true) (hy:∀ w,S w→(execOp a.eval o).run P w=.ok (.value v) w) (ha:a.put o.dst v=a') (h:Qok P ops S K l a') :
  Qok P ops S K (k :: l) a:=⟨o,v,ho,.inl ⟨hw,hy⟩,by rw [ha]; exact h⟩
end
theorem Qp1 {P:Program}{id:Nat}{Q:Exit→Act→World→Prop}{a:Act}{w:World}{l:List Oper} (S:World→Prop) (hm:P.follows .mixedOrders=true)
  (h:wpAnyH P .any l.toArray (fun e a w=>(∀ c,e≠.panic c)∧Q e a w) S l.length (Array.replicate l.length false) a w.drew):(Code.region id l.toArray true).wp P Q a w:=by
 have h2:(Code.region id l.toArray true).wp P (fun e a w=>(∀ c,e≠.panic c)∧Q e a w) a w:=wp_region_held (S:=S) hm (by simpa using h)
 exact Code.wp_mono (fun _ _ _ h=>h.2) h2
theorem Qwk {Q:Exit→Act→World→Prop} : ∀ c a a' w,(fun e a w=>(∀ c,e≠Exit.panic c)∧Q e a w) (.panic c) a w→(fun e a w=>(∀ c,e≠Exit.panic c)∧Q e a w) (.panic c) a' w:=fun c _ _ _ h=>absurd rfl (h.1 c)
theorem Qlq (a:Act){s t:Nat}(v u:Value)(h:s≠t):(a.put (J s) v).put (J t) u=(a.put (J t) u).put (J s) v:=by
 unfold Act.put
 simp only [Act.mk.injEq,and_true]
 exact Array.setIfInBounds_comm _ _ h
section
variable {P:Program}{ops:Array Oper}{Q:Exit→Act→World→Prop}{S:World→Prop}
theorem Qvc (pre:List Nat)(f:Nat){g:Nat}{listed:Array Bool}{a:Act}{w:World} (hs:Region.noSelect ops=true) (hg:g=f+pre.length) (hB:Qz8 ops pre listed=true) (hS:S w)
  (h:Qok P ops S (fun a'=>wpAnyH P .any ops (fun e a w=>(∀ c,e≠Exit.panic c)∧Q e a w) S f (preL pre listed) a' w) pre a):wpAnyH P .any ops (fun e a w=>(∀ c,e≠Exit.panic c)∧Q e a w) S g listed a w:=by
 rw [hg]
 exact Qqv hs Qwk hS pre listed a hB h
end
theorem Qrn {P:Program}{id:Nat}{Q:Exit→Act→World→Prop}{a:Act}{w:World}{l:List Oper} (S:World→Prop) (pre:List Nat) (f:Nat) (hm:P.follows .mixedOrders=true) (hs:Region.noSelect l.toArray=true) (hg:l.length=f+pre.length) (hB:Qz8 l.toArray pre (Array.replicate l.length false)=true) (hS:S w.drew)
  (h:Qok P l.toArray S (fun a'=>wpAnyH P .any l.toArray (fun e a w=>(∀ c,e≠Exit.panic c)∧Q e a w) S f (preL pre (Array.replicate l.length false)) a' w.drew) pre a):(Code.region id l.toArray true).wp P Q a w :=
 Qp1 S hm (Qvc pre f hs hg hB hS h)
theorem Qpj {P:Program}{id:Nat}{Q:Exit→Act→World→Prop}{a:Act}{w:World}{l:List Oper} (S:World→Prop) (pre:List Nat) (f:Nat) (lst:Array Bool) (hm:P.follows .mixedOrders=true) (hs:Region.noSelect l.toArray=true) (hg:l.length=f+pre.length) (hB:Qz8 l.toArray pre (Array.replicate l.length false)=true) (hL:preL pre (Array.replicate l.length false)=lst) (hS:S w.drew)
  (h:Qok P l.toArray S (fun a'=>wpAnyH P .any l.toArray (fun e a w=>(∀ c,e≠Exit.panic c)∧Q e a w) S f lst a' w.drew) pre a):(Code.region id l.toArray true).wp P Q a w :=
 Qrn S pre f hm hs hg hB hS (by rw [hL]; exact h)
def ff16:List Nat:=List.replicate 16 255
section
variable {a:Act}{w:World}{dst:Option Tmp}{ty:TypeId}{pos:String}{after:Array Edge}{K:Act→World→Prop}{Q:Exit→Act→World→Prop}
theorem Qgr {o:Oper}{v:Value}{w':World} (hr:(execOp a.eval o).run I w=.ok (.value v) w') (h:K (a.put o.dst v) w'):Oper.wp I o a w K Q:=by
 unfold Oper.wp
 rw [hr]
 exact h
end
