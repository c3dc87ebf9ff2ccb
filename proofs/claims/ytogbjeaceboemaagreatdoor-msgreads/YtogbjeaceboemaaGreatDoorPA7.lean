import Derived.Test.YtogbjeaceboemaaGreatDoorCards
import Derived.Test.YtogbjeaceboemaaGreatDoorTie
import Derived.WalkKit
import Derived.ProofKit
import Derived.OpenShut
import Derived.Deep.DeepHandedRow
import Derived.Lib.LaidTab
import Derived.Test.YtogbjeaceboemaaGreatDoorPA6
import Derived.Test.YtogbjeaceboemaaGreatDoorPA4
import Derived.Test.YtogbjeaceboemaaGreatDoorPA0
import Derived.Deep.Slices
import Derived.SizedLaws
import Derived.Test.YtogbjeaceboemaaGreatDoorRows
import Derived.ShutString
import Derived.ChangeOld
import Derived.Below
namespace Go.Proofs.YtogbjeaceboemaaGreatDoor
open Go.ChangeShapes Go.WideShapes Go.ChangeAt Go.RowKit
theorem gSaidM:Tryz.prog.globalNamed "interregnum/msg.said" = some 0:=by kernel_rfl
theorem gSaidMType:(Tryz.prog.globals[0]?).map (·.type)=some 83:=by kernel_rfl
theorem cellsTabM:Tryz.prog.cellsOf 83=10:=by kernel_rfl
theorem cellsRowM:Tryz.prog.cellsOf 82=2:=by kernel_rfl
theorem cellsIntM:Tryz.prog.cellsOf 3=1:=by kernel_rfl
set_option maxRecDepth 100000 in
/-- A row of the table, cell for cell. -/
theorem two_of {w:World}{base:Nat}{sp:Nat→Bool}{held:Bool}{fuel:Nat}{cs:List Value}{z0 z1:Int}{x:DataW Unit×List MemPlace} (hl:cs.length=2)
  (h:DataW.trod (fun _=>()) Tryz.prog w base sp held fuel 82 cs=some x) (hx:x.1=.agg [.lit (.int .i64 z0),.lit (.int .i64 z1)]) :
  cs=[.int .i64 z0,.int .i64 z1]:=by
 obtain ⟨xs,k,_,hxe,_,hxl,hf⟩:=DataW.trod_struct Tryz.underlying82 h
 have hxl4:xs.length=2:=hxl
 clear hxl
 match xs,hxl4,cs,hl with
 | [y0,y1],_,[c0,c1],_ =>
  have g0:=hf 0 _ rfl
  have g1:=hf 1 _ rfl
  simp [cellsIntM] at g0 g1
  obtain ⟨n0,e0,q0,_⟩:=DataW.trod_int Tryz.underlying3 g0
  obtain ⟨n1,e1,q1,_⟩:=DataW.trod_int Tryz.underlying3 g1
  rw [hxe,q0,q1] at hx
  simp at hx e0 e1
  obtain ⟨rfl,rfl⟩:=hx
  rw [e0,e1]
theorem saidM_of {W:World}(h:laidMet Tryz.prog [("interregnum/attr.said",Rows.laid_interregnum_attr_said),("interregnum/msg.said",Rows.laid_interregnum_msg_said)] W):SaidM W:=by
 obtain ⟨ps,⟨_,_,_,_,_,_,_,_,_,_,⟨g,t,cs,fuel,p,q,hg,ht,hvar,hd,_,_⟩,_⟩,_⟩:=h
 obtain rfl:=Option.some.inj (gSaidM.symm.trans hg)
 obtain rfl:=Option.some.inj (gSaidMType.symm.trans ht)
 obtain ⟨xs,m,_,hxe,hlen,hxl,hrow⟩:=DataW.trod_array Tryz.underlying83 hd
 rw [cellsTabM] at hlen
 have hsz:cs.size=10:=by simpa using hlen
 have hxs:xs.map (·.1)=(match (Rows.laid_interregnum_msg_said:DataW Unit) with | .agg l=>l | _=>[]):=by
  have:=congrArg Prod.fst hxe
  unfold Rows.laid_interregnum_msg_said at this ⊢
  simp only [DataW.agg.injEq] at this
  exact this.symm
 have key:∀ i,i < 5→(cs.toList.drop (i * 2)).take 2=[.int .i64 (saidML.getD (i * 2) 0),.int .i64 (saidML.getD (i * 2+1) 0)]:=fun i hi=>by
  have hr:=hrow i hi
  rw [cellsRowM,List.getElem?_eq_getElem (by omega)] at hr
  refine two_of (by simp; omega) hr ?_
  have h9:(xs.map (·.1))[i]?=some (xs[i]'(by omega)).1:=by rw [List.getElem?_map,List.getElem?_eq_getElem (by omega)]; rfl
  rw [hxs] at h9
  rcases (by omega:i=0∨i=1∨i=2∨i=3∨i=4) with rfl | rfl | rfl | rfl | rfl <;> exact (Option.some.inj h9).symm
 intro k z hk
 have hk10:k < 10:=by have:=(List.getElem?_eq_some_iff.1 hk).1; simpa [saidML] using this
 rw [World.var?_cell hg hvar k,← Array.getElem?_toList]
 have hz:saidML.getD k 0=z:=by rw [List.getD_eq_getElem?_getD,hk]; rfl
 have h9:=congrArg (fun l=>l[k % 2]?) (key (k / 2) (by omega))
 simp only [List.getElem?_take,List.getElem?_drop] at h9
 rw [if_pos (by omega),show k / 2 * 2+k % 2=k by omega] at h9
 rw [h9,← hz]
 rcases (by omega:k % 2=0∨k % 2=1) with e | e
 ·rw [e,show k=k / 2 * 2 by omega]; simp
 ·rw [e]; conv=>rhs; rw [show k=k / 2 * 2+1 by omega]
  simp
def saidAL:List Int:=[0,0,0,0,64,1,1,1,64,0,65535,1,64,4,4,4,128,4,4,4,64,4,4,4,64,0,0,1,192,8,8,8,192,4,65535,4]
def layAt (l:List Int)(o:Obj):Obj:=match o with
 | .cells _ t frozen=>.cells (l.map fun z=>Value.int .i64 z).toArray t frozen
 | o=>o
noncomputable def laidWM (os:Os):World :=
 { World.holding Tryz.prog os ⟨#[],#[],[]⟩ with heap:=((World.holding Tryz.prog os ⟨#[],#[],[]⟩).heap.modify 0 (layAt saidML)).modify 1 (layAt saidAL) }
theorem gSaidA:Tryz.prog.globalNamed "interregnum/attr.said" = some 1:=by kernel_rfl
theorem gSaidAType:(Tryz.prog.globals[1]?).map (·.type)=some 166:=by kernel_rfl
theorem cellsTabA:Tryz.prog.cellsOf 166=36:=by kernel_rfl
theorem cellsRowA:Tryz.prog.cellsOf 165=4:=by kernel_rfl
theorem cellsIntA:Tryz.prog.cellsOf 3=1:=by kernel_rfl
set_option maxRecDepth 100000 in
/-- A row of the table, cell for cell. -/
theorem four_of {w:World}{base:Nat}{sp:Nat→Bool}{held:Bool}{fuel:Nat}{cs:List Value}{z0 z1 z2 z3:Int}{x:DataW Unit×List MemPlace} (hl:cs.length=4)
  (h:DataW.trod (fun _=>()) Tryz.prog w base sp held fuel 165 cs=some x) (hx:x.1=.agg [.lit (.int .i64 z0),.lit (.int .i64 z1),.lit (.int .i64 z2),.lit (.int .i64 z3)]) :
  cs=[.int .i64 z0,.int .i64 z1,.int .i64 z2,.int .i64 z3]:=by
 obtain ⟨xs,k,_,hxe,_,hxl,hf⟩:=DataW.trod_struct Tryz.underlying165 h
 have hxl4:xs.length=4:=hxl
 clear hxl
 match xs,hxl4,cs,hl with
 | [y0,y1,y2,y3],_,[c0,c1,c2,c3],_ =>
  have g0:=hf 0 _ rfl
  have g1:=hf 1 _ rfl
  have g2:=hf 2 _ rfl
  have g3:=hf 3 _ rfl
  simp [cellsIntA] at g0 g1 g2 g3
  obtain ⟨n0,e0,q0,_⟩:=DataW.trod_int Tryz.underlying3 g0
  obtain ⟨n1,e1,q1,_⟩:=DataW.trod_int Tryz.underlying3 g1
  obtain ⟨n2,e2,q2,_⟩:=DataW.trod_int Tryz.underlying3 g2
  obtain ⟨n3,e3,q3,_⟩:=DataW.trod_int Tryz.underlying3 g3
  rw [hxe,q0,q1,q2,q3] at hx
  simp at hx e0 e1 e2 e3
  obtain ⟨rfl,rfl,rfl,rfl⟩:=hx
  rw [e0,e1,e2,e3]
theorem saidA_of {W:World}(h:laidMet Tryz.prog [("interregnum/attr.said",Rows.laid_interregnum_attr_said),("interregnum/msg.said",Rows.laid_interregnum_msg_said)] W):Said W:=by
 obtain ⟨ps,⟨g,t,cs,fuel,p,q,hg,ht,hvar,hd,_,_⟩,_⟩:=h
 obtain rfl:=Option.some.inj (gSaidA.symm.trans hg)
 obtain rfl:=Option.some.inj (gSaidAType.symm.trans ht)
 obtain ⟨xs,m,_,hxe,hlen,hxl,hrow⟩:=DataW.trod_array Tryz.underlying166 hd
 rw [cellsTabA] at hlen
 have hsz:cs.size=36:=by simpa using hlen
 have hxs:xs.map (·.1)=(match (Rows.laid_interregnum_attr_said:DataW Unit) with | .agg l=>l | _=>[]):=by
  have:=congrArg Prod.fst hxe
  unfold Rows.laid_interregnum_attr_said at this ⊢
  simp only [DataW.agg.injEq] at this
  exact this.symm
 have key:∀ i,i < 9→(cs.toList.drop (i * 4)).take 4=[.int .i64 (saidL.getD (i * 4) 0),.int .i64 (saidL.getD (i * 4+1) 0),.int .i64 (saidL.getD (i * 4+2) 0),.int .i64 (saidL.getD (i * 4+3) 0)]:=fun i hi=>by
  have hr:=hrow i hi
  rw [cellsRowA,List.getElem?_eq_getElem (by omega)] at hr
  refine four_of (by simp; omega) hr ?_
  have h9:(xs.map (·.1))[i]?=some (xs[i]'(by omega)).1:=by rw [List.getElem?_map,List.getElem?_eq_getElem (by omega)]; rfl
  rw [hxs] at h9
  rcases (by omega:i=0∨i=1∨i=2∨i=3∨i=4∨i=5∨i=6∨i=7∨i=8) with rfl | rfl | rfl | rfl | rfl | rfl | rfl | rfl | rfl <;> exact (Option.some.inj h9).symm
 intro k z hk
 have hk36:k < 36:=by have:=(List.getElem?_eq_some_iff.1 hk).1; simpa [saidL] using this
 rw [World.var?_cell hg hvar k,← Array.getElem?_toList]
 have hz:saidL.getD k 0=z:=by rw [List.getD_eq_getElem?_getD,hk]; rfl
 have h9:=congrArg (fun l=>l[k % 4]?) (key (k / 4) (by omega))
 simp only [List.getElem?_take,List.getElem?_drop] at h9
 rw [if_pos (by omega),show k / 4 * 4+k % 4=k by omega] at h9
 rw [h9,← hz]
 rcases (by omega:k % 4=0∨k % 4=1∨k % 4=2∨k % 4=3) with e | e | e | e
 ·rw [e,show k=k / 4 * 4 by omega]; simp;
 ·rw [e]; conv=>rhs; rw [show k=k / 4 * 4+1 by omega]
  simp
 ·rw [e]; conv=>rhs; rw [show k=k / 4 * 4+2 by omega]
  simp
 ·rw [e]; conv=>rhs; rw [show k=k / 4 * 4+3 by omega]
  simp
open Go.RowKit Go.ChangeShapes Go.WideShapes Go.ChangeAt
set_option maxRecDepth 100000
theorem bytesU32:Tryz.prog.bytesOf 24=4:=by kernel_rfl
theorem bytesU8:Tryz.prog.bytesOf 5=1:=by kernel_rfl
theorem u32s_of {H:Type}{enc:TypeId×Value→H}{W:World}{fuel:Nat}{v:Value}{x:DataW H×List MemPlace} (h:DataW.trod enc Tryz.prog W 0 (fun _=>true) true fuel 31 [v]=some x) :
  ∃ (a:Option Addr) (c:Nat) (zs:List Nat),v=.slice a zs.length c∧zs.length≤c∧CRd W a zs∧(∀ z∈zs,z < 4294967296)∧zs.length≤maxLen∧∀ R,(∀ n∈x.1.weights Tryz.prog 31,n≤R)→zs.length * 4≤R:=by
 have k1:Tryz.prog.cellsOf 24=1:=by kernel_rfl
 rcases Go.Deep.open_slice1 Tryz.underlying31 k1 h with ⟨e,_⟩ | ⟨y,l,c,m,n,V,D,Pl,e,_,hl,hm,hmm,hxe,hx⟩
 ·simp at e
  subst e
  exact ⟨none,0,[],rfl,Nat.le_refl _,fun h=>absurd h (by simp),fun z hz=>by simp at hz,by simp,fun R _=>by simp⟩
 ·simp at e
  subst e
  simp at hmm
  subst hmm
  have hq:∀ i,i < l→∃ z:Nat,W.cell? (y.add i)=some (.int .u32 (z:Int))∧z < 4294967296:=fun i hi=>by
   obtain ⟨h1,h2⟩:=hx i (by omega)
   obtain ⟨z,e0,_,hw⟩:=DataW.trod_int Tryz.underlying24 h2
   have hb:=bounds_u32 hw
   simp at e0
   obtain ⟨q,rfl⟩:=Int.eq_ofNat_of_zero_le hb.1
   exact ⟨q,by rw [h1,e0],by omega⟩
  obtain ⟨F,hF⟩:∃ F:Nat→Nat,∀ i,i < l→W.cell? (y.add i)=some (.int .u32 ((F i:Nat):Int))∧F i < 4294967296 :=
   ⟨fun i=>if h:i < l then Classical.choose (hq i h) else 0,fun i hi=>by
    simp only [dif_pos hi]
    exact Classical.choose_spec (hq i hi)⟩
  have hsp:0 < l→∃ b off,y=⟨b,off,none⟩:=fun hp2=>by
   obtain ⟨b,off,spot⟩:=y
   have hs:spot=none:=by simpa [Addr.add] using World.cell?_spot (hF 0 hp2).1
   subst hs
   exact ⟨b,off,rfl⟩
  refine ⟨some y,m,(List.range l).map F,by simp,by simpa using hl,?_,fun z hz=>?_,by simp; omega,fun R hR=>?_⟩
  ·intro hp
   obtain ⟨b,off,rfl⟩:=hsp (by simpa using hp)
   refine ⟨b,off,rfl,fun j z hj=>?_⟩
   have hjl:j < l:=by
    have:=(List.getElem?_eq_some_iff.1 hj).1
    simpa using this
   have e:z=F j:=by
    have:=(List.getElem?_eq_some_iff.1 hj).2
    simpa using this.symm
   have:=(hF j hjl).1
   rw [Addr.add_mid] at this
   rw [e]
   exact this
  ·obtain ⟨i,hi,rfl⟩:=List.mem_map.1 hz
   exact (hF i (by simpa using hi)).2
  ·subst hxe
   have h9:=hR _ (by simp only [DataW.weights,Tryz.underlying31]; exact List.mem_cons_self ..)
   rw [bytesU32] at h9
   simp only [List.length_map,List.length_range] at h9 ⊢
   exact Nat.le_trans (Nat.mul_le_mul_right 4 (Nat.le_add_right l _)) h9
theorem bytes_of {H:Type}{enc:TypeId×Value→H}{W:World}{fuel:Nat}{v:Value}{x:DataW H×List MemPlace} (h:DataW.trod enc Tryz.prog W 0 (fun _=>true) true fuel 22 [v]=some x) :
  ∃ (a:Option Addr) (c:Nat) (zs:List Nat),v=.slice a zs.length c∧zs.length≤c∧Rw W a zs.length (fun j=>zs.getD j 0)∧(∀ z∈zs,z < 256)∧zs.length≤maxLen∧∀ R,(∀ n∈x.1.weights Tryz.prog 22,n≤R)→zs.length * 1≤R:=by
 have k1:Tryz.prog.cellsOf 5=1:=by kernel_rfl
 rcases Go.Deep.open_slice1 Tryz.underlying22 k1 h with ⟨e,_⟩ | ⟨y,l,c,m,n,V,D,Pl,e,_,hl,hm,hmm,hxe,hx⟩
 ·simp at e
  subst e
  exact ⟨none,0,[],rfl,Nat.le_refl _,Rw.nil _ _ _,fun z hz=>by simp at hz,by simp,fun R _=>by simp⟩
 ·simp at e
  subst e
  simp at hmm
  subst hmm
  have hq:∀ i,i < l→∃ z:Nat,W.cell? (y.add i)=some (.int .u8 (z:Int))∧z < 256:=fun i hi=>by
   obtain ⟨h1,h2⟩:=hx i (by omega)
   obtain ⟨z,e0,_,hw⟩:=DataW.trod_int Tryz.underlying5 h2
   have hb:=bounds_u8 hw
   simp at e0
   obtain ⟨q,rfl⟩:=Int.eq_ofNat_of_zero_le hb.1
   exact ⟨q,by rw [h1,e0],by omega⟩
  obtain ⟨F,hF⟩:∃ F:Nat→Nat,∀ i,i < l→W.cell? (y.add i)=some (.int .u8 ((F i:Nat):Int))∧F i < 256 :=
   ⟨fun i=>if h:i < l then Classical.choose (hq i h) else 0,fun i hi=>by
    simp only [dif_pos hi]
    exact Classical.choose_spec (hq i hi)⟩
  have hsp:0 < l→∃ b off,y=⟨b,off,none⟩:=fun hp2=>by
   obtain ⟨b,off,spot⟩:=y
   have hs:spot=none:=by simpa [Addr.add] using World.cell?_spot (hF 0 hp2).1
   subst hs
   exact ⟨b,off,rfl⟩
  refine ⟨some y,m,(List.range l).map F,by simp,by simpa using hl,?_,fun z hz=>?_,by simp; omega,fun R hR=>?_⟩
  ·refine ⟨by simp; omega,fun hp=>?_⟩
   obtain ⟨b,off,rfl⟩:=hsp (by simpa using hp)
   refine ⟨b,off,rfl,fun j hj=>?_⟩
   have hjl:j < l:=by simpa using hj
   have:=(hF j hjl).1
   rw [Addr.add_mid] at this
   rw [this]
   simp [List.getD_eq_getElem?_getD,hjl]
  ·obtain ⟨i,hi,rfl⟩:=List.mem_map.1 hz
   exact (hF i (by simpa using hi)).2
  ·subst hxe
   have h9:=hR _ (by simp only [DataW.weights,Tryz.underlying22]; exact List.mem_cons_self ..)
   rw [bytesU8] at h9
   simp only [List.length_map,List.length_range] at h9 ⊢
   exact Nat.le_trans (Nat.mul_le_mul_right 1 (Nat.le_add_right l _)) h9
theorem ownKnob_no:ownKnob Tryz.prog.godebug=none:=by kernel_rfl
theorem laid_all:laidOutB Tryz.prog=true:=by kernel_rfl
set_option linter.unusedVariables false
set_option maxRecDepth 100000 in
theorem msgReads_met (os:Os):laidMet Tryz.prog Rows.msgReadsRow.laid ((laidWM os).forCall (fun _ _=>0) ⟨#[],#[.slice none 0 0],[]⟩).memory :=
 laidMet_of_run' 8 (by kernel_rfl) (by kernel_rfl)
set_option maxRecDepth 100000 in
theorem msgReads_reads (os:Os){H:Type}(enc:TypeId×Value→H):DataW.whole enc Tryz.prog ((laidWM os).forCall (fun _ _=>0) ⟨#[],#[.slice none 0 0],[]⟩).memory Tryz.f3.params.toList Rows.msgReadsSpec.vars false (#[.slice none 0 0]:Array Value).toList 8=some ([.nil],[],[]):=by kernel_rfl
set_option maxRecDepth 100000 in
theorem msgReads_frame (walk:∀ (b0:Option Addr) (c0:Nat) (bs0:List Nat) (W:World),SaidM W→Said W→bs0.length≤c0→BRd W b0 bs0→Calls Tryz.prog 3 #[.slice b0 bs0.length c0] W fun e W'=>e=.returned (.bool true)∧Below W.heap.size W W')(os:Os)(started:os.Started)(H:Type)(enc:TypeId×Value→H)(F:Stop.Interp) :
  ReturnsInHanded {} Tryz.checked os 3 .any ((OpenSpec.ofChange Rows.msgReadsSpec).preRow enc Tryz.prog Tryz.f3 Rows.msgReadsRow.domain false Rows.msgReadsRow.laid) (((OpenSpec.ofChange Rows.msgReadsSpec).at F).post enc Tryz.prog Tryz.f3 false true false false):=by
 refine returnsInHanded_of_row (C:=Tryz.checked) (s:=OpenSpec.ofChange Rows.msgReadsSpec) ownKnob_no started (by kernel_rfl) Tryz.func3
  (witness_row_at (enc:=enc) (C:=Tryz.checked) false (laidWM os) #[.slice none 0 0] rfl (by kernel_rfl) (by kernel_rfl) (by kernel_rfl)
   (OpenSpec.preRow_of_cond 8 (msgReads_reads os enc) (by kernel_rfl) (fun k hk=>by cases hk) (by kernel_rfl) (msgReads_met os))) ?_
 intro W base args ds gs before hval0 hW hcnd _ hsz0 hL _ _
 have hval:∀ (j:Nat) t v,Tryz.f3.params[j]?=some t→args[j]?=some v→Value.okWide Tryz.prog W .any base t v:=hval0
 have hsz:(DataW.weightsEach Tryz.prog (Tryz.f3.params.toList++Rows.msgReadsSpec.plain.varTypes Tryz.prog) (ds++gs)).all (·≤reachBytes)=true:=hsz0
 have hW':=hW
 obtain ⟨p,q,hA0,hV,rfl,hfz,hnd⟩:=hW
 have hA:DataW.TrodAll enc Tryz.prog W 0 (fun _=>true) true Tryz.f3.params.toList args.toList ds p:=hA0
 rw [Tryz.params3] at hA hval hsz
 obtain ⟨v0,vs0,d0,ds0,p0,q0,hargs,rfl,rfl,h0,r0⟩:=trodAll_cons hA
 obtain ⟨rfl,rfl,rfl⟩:=trodAll_nil r0
 obtain rfl:args=#[v0]:=by cases args; simp_all
 obtain ⟨rfl,rfl⟩:=trodVars_none hV
 have k0:=h0
 have lt0:∀ x∈p0,x.block < W.heap.size:=by obtain ⟨m,hm⟩:=k0; exact DataW.trod_lt m _ _ _ hm
 obtain ⟨b0,len0,c0,rfl⟩:=okWide_slice Tryz.underlying22 (hval 0 22 v0 rfl rfl)
 obtain ⟨bs0,rfl,hc0,hd0⟩:∃ bs:List Nat,bs.length=len0∧bs.length≤c0∧BRd W b0 bs:=by
  obtain ⟨fuel,hf⟩:=h0
  obtain ⟨a,c,zs,e,h1,h2,h3,_,_⟩:=bytes_of hf
  simp only [Value.slice.injEq] at e
  obtain ⟨rfl,rfl,rfl⟩:=e
  exact ⟨zs,rfl,h1,h2,h3⟩
 clear hA0 hval0 hsz hsz0
 refine (walk b0 c0 bs0 W (saidM_of hL) (saidA_of hL) hc0 hd0).mono fun e W' ⟨he,bel⟩=>?_
 subst he
 exact ⟨_,rfl,_,_,_,[],_,[],hW',trodAll_mk1 (shut_bool Tryz.underlying4 _),(trodAll_cons_mk (Below.trod laid_all (by kernel_rfl) (of_decide_eq_true (by kernel_rfl)) k0 bel lt0) trodAll_mk0),rfl,bel.frame _,fun h=>by cases h⟩
theorem msgReads_over (walk:∀ (b0:Option Addr) (c0:Nat) (bs0:List Nat) (W:World),SaidM W→Said W→bs0.length≤c0→BRd W b0 bs0→Calls Tryz.prog 3 #[.slice b0 bs0.length c0] W fun e W'=>e=.returned (.bool true)∧Below W.heap.size W W'):Rows.msgReadsRow.holds Tryz.pinned (OpenSpec.ofChange Rows.msgReadsSpec) :=
 OpenClaim.holds_of_cond 3 Tryz.f3 rfl rfl rfl rfl rfl rfl rfl ⟨rfl,rfl,rfl,rfl,rfl⟩ rfl rfl rfl rfl rfl (by kernel_rfl) Tryz.func3 (by kernel_rfl)
  (of_decide_eq_true (by kernel_rfl)) (by unfold Func.isWrapper; first | (rw [if_pos (by decide +kernel)]; kernel_rfl) | (rw [if_neg (by decide +kernel)]; exact ⟨rfl,rfl⟩))
  (fun os started H enc _ F=>by rw [OpenClaim.pre_eq_preRow]; exact msgReads_frame walk os started H enc F)
theorem msgReads_plain (f:FuncId)(fn:Func)(hf:Tryz.pinned.checked.prog.funcNamed "interregnum/interregnumlaw09.MsgReads" = some f)(hfn:Tryz.pinned.checked.prog.funcs[f]?=some fn) :
  true=Tryz.pinned.checked.prog.looks []∧∀ (j:Nat) t,fn.params[j]?=some t→Tryz.pinned.checked.prog.wantsStandIn t=false:=by
 obtain rfl:f=3:=Option.some.inj ((show Tryz.prog.funcNamed "interregnum/interregnumlaw09.MsgReads" = some 3 by kernel_rfl).symm.trans hf) |>.symm
 obtain rfl:fn=Tryz.f3:=(Option.some.inj (Tryz.func3.symm.trans hfn)).symm
 refine ⟨by kernel_rfl,fun j t ht=>?_⟩
 rw [Tryz.params3] at ht
 obtain rfl:t=22:=by simpa using Array.mem_of_getElem? ht
 exact (show Tryz.prog.wantsStandIn 22=false by kernel_rfl)
theorem msgReads_carded (walk:∀ (b0:Option Addr) (c0:Nat) (bs0:List Nat) (W:World),SaidM W→Said W→bs0.length≤c0→BRd W b0 bs0→Calls Tryz.prog 3 #[.slice b0 bs0.length c0] W fun e W'=>e=.returned (.bool true)∧Below W.heap.size W W'):Rows.MsgReadsCardSaid :=
 Claim7.holds_tied_plain_at .later [] _ _ _ _ (msgReads_over walk) (fun _ h=>by cases h) (by kernel_rfl) (fun _ h=>by cases h) msgReads_row_tie rfl ⟨rfl,rfl⟩ (by kernel_rfl) rfl msgReads_plain (by kernel_rfl)
end Go.Proofs.YtogbjeaceboemaaGreatDoor
