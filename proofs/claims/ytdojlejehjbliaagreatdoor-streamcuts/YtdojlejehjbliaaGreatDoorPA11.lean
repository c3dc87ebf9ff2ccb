import Derived.Test.YtdojlejehjbliaaGreatDoorPA10
namespace Go.Proofs.YtdojlejehjbliaaGreatDoor
set_option maxHeartbeats 4000000
open _root_.Option renaming some → I,none → D
open _root_.Go.Value renaming bool → J,int → V,slice → E,pointer → M
open _root_.Go.IntKind renaming i64 → U
open _root_.Go.Proofs.Tryz renaming prog → R
open _root_.Go.Obj renaming cells → T
open _root_.Go.Ending renaming returned → L
open _root_.Nat renaming le_refl → N
open Go.RowKit
set_option maxRecDepth 100000
section
variable {a:Act}{w:World}{dst:Option Tmp}{ty:TypeId}{pos:String}{after:Array Edge}{K:Act→World→Prop}{Q:Exit→Act→World→Prop}{ρ:Operand→Value}
theorem Qua (x:Operand)(u:Value)(hf:ρ (.func 38)=.func (.func 38) #[] #[])(hx:ρ x=u) :
  (execOp ρ { dst:=dst,op:=.call { callee:=.value (.func 38),args:=#[x],argTypes:=#[22] },type:=ty,pos:=pos,after:=after,guard:=D }).run R w=.ok (.enter 38 #[u]) w:=by
 unfold execOp
 simp [resolve,invoke,hf,hx,go_sem]
theorem Qkz (x:Operand)(u:Value)(hx:a.eval x=u)(h:Calls R 38 #[u] w fun e w'=>∃ r,e=L r∧K (a.put dst r) w') :
  Oper.wp R { dst:=dst,op:=.call { callee:=.value (.func 38),args:=#[x],argTypes:=#[22] },type:=ty,pos:=pos,after:=after,guard:=D } a w K Q:=by
 unfold Oper.wp
 rw [Qua (ρ:=a.eval) x u rfl hx]
 refine Calls.mono h ?_
 rintro _ w' ⟨r,rfl,hk⟩
 exact hk
theorem Qhd {x0 x1 x2 x3:Operand}{A:Int}{h i:Nat}{c:Cp} (h0:ρ x0=V U A) (h1:ρ x1=V U (h:Int)) (h2:ρ x2=V .u32 (i:Int)) (h3:ρ x3=Qga c) :
  (execOp ρ { dst:=dst,op:=.build 28 #[(0,x0),(1,x1),(2,x2),(3,x3)],type:=ty,pos:=pos,after:=after,guard:=D }).run R w=.ok (.value (.agg (Qce A h i c))) w:=by
 unfold execOp
 have e:(#[(0,x0),(1,x1),(2,x2),(3,x3)].map fun ((i,x):Nat×Operand)=>(i,ρ x))=#[(0,V U A),(1,V U (h:Int)),(2,V .u32 (i:Int)),(3,Qga c)]:=by simp [h0,h1,h2,h3]
 simp only [e,Sem.run_bind,Qpk,Result.andThen_ok,Sem.run_pure]
theorem run_of_buildN:(execOp ρ { dst:=dst,op:=.build 38 #[],type:=ty,pos:=pos,after:=after,guard:=D }).run R w=.ok (.value (.agg #[V U 0,V U 0,E D 0 0])) w:=by
 unfold execOp
 simp [go_sem]
theorem Qiw {x:Operand}{g:Nat}{c:Cp} (hx:ρ x=M (I ⟨g,0,D⟩)) (h:w.rangeAt g 0 (Qx7 c).toList):(execOp ρ { dst:=dst,op:=.load 26 x,type:=ty,pos:=pos,after:=after,guard:=D }).run R w=.ok (.value (Qga c)) w:=by
 have hr:=run_loadAt_mid (P:=R) w g 0 26 (Qx7 c).toList _ h Tryz.underlying26 rfl (show (R.info? 26).map (·.size)=I 9 by kernel_rfl)
 have e:Value.agg (Qx7 c).toList.toArray=Qga c:=rfl
 unfold execOp
 simp only [hx,Sem.run_bind,hr,Result.andThen_ok,Sem.run_pure,e]
end
section
variable {ops:Array Oper}{Q:Exit→Act→World→Prop}{id:Nat}
/-- 'return api.Open{AS: as, Hold: numberOf(b[3:5]), ID: uint32(numberOf(b[5:9])), Caps: c}, api.Note{}'. -/
theorem Qxc (b:Act)(w1:World)(gO gN Y g o n c:Nat)(A:Int)(hh ii:Nat)(cc:Cp)(C0 N0:Array Value)
  (o0:opk ops 0 (I 53) (.move (.tmp 8)))
  (o1:opk ops 1 (I 54) (.move (.tmp 0)))
  (o2:opk ops 2 (I 55) (.slice 22 (.tmp 54) (I (.const (V U 3))) (I (.const (V U 5))) D))
  (o3:opk ops 3 (I 56) (.call { callee:=.value (.func 38),args:=#[.tmp 55],argTypes:=#[22] }))
  (o4:opk ops 4 (I 57) (.move (.tmp 0)))
  (o5:opk ops 5 (I 58) (.slice 22 (.tmp 57) (I (.const (V U 5))) (I (.const (V U 9))) D))
  (o6:opk ops 6 (I 59) (.call { callee:=.value (.func 38),args:=#[.tmp 58],argTypes:=#[22] }))
  (o7:opk ops 7 (I 60) (.convert 3 24 (.tmp 59)))
  (o8:opk ops 8 (I 61) (.load 26 (.tmp 7)))
  (o9:opk ops 9 (I 62) (.build 28 #[(0,.tmp 53),(1,.tmp 56),(2,.tmp 60),(3,.tmp 61)]))
  (o10:opk ops 10 (I 63) (.build 38 #[]))
  (o11:opk ops 11 D (.store 28 (.tmp 2) (.tmp 62)))
  (o12:opk ops 12 D (.store 38 (.tmp 3) (.tmp 63)))
  (hsz:ops.size=13) (hns:Region.noSelect ops=true)
  (t0:tk ops #[false,false,false,false,false,false,false,false,false,false,false,false,false] 0=true)
  (t1:tk ops #[true,false,false,false,false,false,false,false,false,false,false,false,false] 1=true)
  (t2:tk ops #[true,true,false,false,false,false,false,false,false,false,false,false,false] 2=true)
  (t4:tk ops #[true,true,true,false,false,false,false,false,false,false,false,false,false] 4=true)
  (t5:tk ops #[true,true,true,false,true,false,false,false,false,false,false,false,false] 5=true)
  (t8:tk ops #[true,true,true,false,true,true,false,false,false,false,false,false,false] 8=true)
  (t10:tk ops #[true,true,true,false,true,true,false,false,true,false,false,false,false] 10=true)
  (t7:tk ops #[true,true,true,true,true,true,true,false,true,false,true,false,false] 7=true)
  (t9:tk ops #[true,true,true,true,true,true,true,true,true,false,true,false,false] 9=true)
  (r3:Region.ready .any ops #[true,true,true,false,true,true,false,false,true,false,true,false,false]=[3]) (r6:Region.ready .any ops #[true,true,true,true,true,true,false,false,true,false,true,false,false]=[6])
  (r11:Region.ready .any ops #[true,true,true,true,true,true,true,true,true,true,true,false,false]=[11]) (r12:Region.ready .any ops #[true,true,true,true,true,true,true,true,true,true,true,true,false]=[12]) (rE:Region.ready .any ops #[true,true,true,true,true,true,true,true,true,true,true,true,true]=[])
  (hb:b.tmps.size=64) (s0:b.tmps[0]?=I (E (I ⟨g,o,D⟩) n c)) (s8:b.tmps[8]?=I (V U A)) (s7:b.tmps[7]?=I (M (I ⟨Y,0,D⟩))) (s2:b.tmps[2]?=I (M (I ⟨gO,0,D⟩))) (s3:b.tmps[3]?=I (M (I ⟨gN,0,D⟩)))
  (hn:10≤n) (hl:n≤5000) (hc:n≤c) (hid:ii < 4294967296)
  (bO:w1.heap[gO]?=I (T C0 28 (0,0))) (bN:w1.heap[gN]?=I (T N0 38 (0,0))) (hne:gN≠gO) (hO:C0.size=12) (hN:N0.size=3)
  (bY:w1.heap[Y]?=I (T (Qx7 cc) 26 (0,0))) (hY:Y≠gO∧Y≠gN)
  (k3:∀ X,Qae (fun k=>k=gO∨k=gN) w1 X→Calls R 38 #[E (I ⟨g,o+3,D⟩) 2 (c - 3)] X fun e w'=>e=L (V U (hh:Int))∧w'=X)
  (k6:∀ X,Qae (fun k=>k=gO∨k=gN) w1 X→Calls R 38 #[E (I ⟨g,o+5,D⟩) 4 (c - 5)] X fun e w'=>e=L (V U (ii:Int))∧w'=X)
  (fin:∀ a,a.tmps[2]?=I (M (I ⟨gO,0,D⟩))→a.tmps[3]?=I (M (I ⟨gN,0,D⟩))→a.defers=b.defers→Q .normal a ((({ w1 with drawn:=w1.drawn+1 } : World).setCells gO 0 (Qce A hh ii cc).toList).setCells gN 0 (#[V U 0,V U 0,E D 0 0]:Array Value).toList)) :
  (Code.region id ops true).wp R Q b w1:=by
 obtain ⟨a0,p0,e0,h0'⟩:=o0
 obtain ⟨a1,p1,e1,h1'⟩:=o1
 obtain ⟨a2,p2,e2,h2'⟩:=o2
 obtain ⟨a3,p3,e3,h3'⟩:=o3
 obtain ⟨a4,p4,e4,h4'⟩:=o4
 obtain ⟨a5,p5,e5,h5'⟩:=o5
 obtain ⟨a6,p6,e6,h6'⟩:=o6
 obtain ⟨a7,p7,e7,h7'⟩:=o7
 obtain ⟨a8,p8,e8,h8'⟩:=o8
 obtain ⟨a9,p9,e9,h9'⟩:=o9
 obtain ⟨a10,p10,e10,h10'⟩:=o10
 obtain ⟨a11,p11,e11,h11'⟩:=o11
 obtain ⟨a12,p12,e12,h12'⟩:=o12
 have zY:=(Array.getElem?_eq_some_iff.1 bY).1
 have hc3:¬ c=3:=by omega
 have hc5:¬ c=5:=by omega
 have hc9:(9:Int)≤(c:Int):=by omega
 have hc5i:(5:Int)≤(c:Int):=by omega
 refine wp_region_noPanic ?_
 refine wp_region_held (S:=fun W=>Qae (fun k=>k=gO∨k=gN) w1 W) (by kernel_rfl) ?_
 rw [hsz]
 have hdr:Qae (fun k=>k=gO∨k=gN) w1 { w1 with drawn:=w1.drawn+1 }:=⟨rfl,rfl,rfl,N _,fun _ _ _=>rfl⟩
 have f0:Fr [53,54,55,57,58,61,63,56,59,60,62] b b:=Fr.refl _ _
 show wpAnyH R .any ops (NoPanic Q) _ (12+1) #[false,false,false,false,false,false,false,false,false,false,false,false,false] _ _
 refine Qao h0' rfl rfl hns (tk1 t0) (tk2 t0) (v:=(V U A)) (fun _ _ _ _ h=>h) (fun W _=>Qdg _ W _ _ _ rfl (Qaf (f0.slot (by decide) s8))) hdr ?_
 obtain ⟨A1,hA1⟩:∃ Z,Z=b.put (I 53) (V U A):=⟨_,rfl⟩
 rw [← hA1]
 have f1:Fr [53,54,55,57,58,61,63,56,59,60,62] b A1:=by rw [hA1]; exact f0.put (by decide) _
 have g1_53:A1.tmps[53]?=I (V U A):=by rw [hA1]; exact Qak _ (by rw [f0.size,hb]; decide)
 clear hA1
 show wpAnyH R .any ops (NoPanic Q) _ (11+1) #[true,false,false,false,false,false,false,false,false,false,false,false,false] _ _
 refine Qao h1' rfl rfl hns (tk1 t1) (tk2 t1) (v:=(E (I ⟨g,o,D⟩) n c)) (fun _ _ _ _ h=>h) (fun W _=>Qdg _ W _ _ _ rfl (Qaf (f1.slot (by decide) s0))) hdr ?_
 obtain ⟨A2,hA2⟩:∃ Z,Z=A1.put (I 54) (E (I ⟨g,o,D⟩) n c):=⟨_,rfl⟩
 rw [← hA2]
 have f2:Fr [53,54,55,57,58,61,63,56,59,60,62] b A2:=by rw [hA2]; exact f1.put (by decide) _
 have g2_53:A2.tmps[53]?=I (V U A):=by rw [hA2,Qab _ (by decide)]; exact g1_53
 have g2_54:A2.tmps[54]?=I (E (I ⟨g,o,D⟩) n c):=by rw [hA2]; exact Qak _ (by rw [f1.size,hb]; decide)
 clear hA2
 show wpAnyH R .any ops (NoPanic Q) _ (10+1) #[true,true,false,false,false,false,false,false,false,false,false,false,false] _ _
 refine Qao h2' rfl rfl hns (tk1 t2) (tk2 t2) (v:=(E (I ⟨g,o+3,D⟩) 2 (c - 3))) (fun _ _ _ _ h=>h) (fun W _=>by
  have q:=Qaf g2_54
  unfold execOp
  simp only [q]
  simp [go_sem,hc5i,hc3]) hdr ?_
 obtain ⟨A3,hA3⟩:∃ Z,Z=A2.put (I 55) (E (I ⟨g,o+3,D⟩) 2 (c - 3)):=⟨_,rfl⟩
 rw [← hA3]
 have f3:Fr [53,54,55,57,58,61,63,56,59,60,62] b A3:=by rw [hA3]; exact f2.put (by decide) _
 have g3_53:A3.tmps[53]?=I (V U A):=by rw [hA3,Qab _ (by decide)]; exact g2_53
 have g3_54:A3.tmps[54]?=I (E (I ⟨g,o,D⟩) n c):=by rw [hA3,Qab _ (by decide)]; exact g2_54
 have g3_55:A3.tmps[55]?=I (E (I ⟨g,o+3,D⟩) 2 (c - 3)):=by rw [hA3]; exact Qak _ (by rw [f2.size,hb]; decide)
 clear hA3
 show wpAnyH R .any ops (NoPanic Q) _ (9+1) #[true,true,true,false,false,false,false,false,false,false,false,false,false] _ _
 refine Qao h4' rfl rfl hns (tk1 t4) (tk2 t4) (v:=(E (I ⟨g,o,D⟩) n c)) (fun _ _ _ _ h=>h) (fun W _=>Qdg _ W _ _ _ rfl (Qaf (f3.slot (by decide) s0))) hdr ?_
 obtain ⟨A4,hA4⟩:∃ Z,Z=A3.put (I 57) (E (I ⟨g,o,D⟩) n c):=⟨_,rfl⟩
 rw [← hA4]
 have f4:Fr [53,54,55,57,58,61,63,56,59,60,62] b A4:=by rw [hA4]; exact f3.put (by decide) _
 have g4_53:A4.tmps[53]?=I (V U A):=by rw [hA4,Qab _ (by decide)]; exact g3_53
 have g4_54:A4.tmps[54]?=I (E (I ⟨g,o,D⟩) n c):=by rw [hA4,Qab _ (by decide)]; exact g3_54
 have g4_55:A4.tmps[55]?=I (E (I ⟨g,o+3,D⟩) 2 (c - 3)):=by rw [hA4,Qab _ (by decide)]; exact g3_55
 have g4_57:A4.tmps[57]?=I (E (I ⟨g,o,D⟩) n c):=by rw [hA4]; exact Qak _ (by rw [f3.size,hb]; decide)
 clear hA4
 show wpAnyH R .any ops (NoPanic Q) _ (8+1) #[true,true,true,false,true,false,false,false,false,false,false,false,false] _ _
 refine Qao h5' rfl rfl hns (tk1 t5) (tk2 t5) (v:=(E (I ⟨g,o+5,D⟩) 4 (c - 5))) (fun _ _ _ _ h=>h) (fun W _=>by
  have q:=Qaf g4_57
  unfold execOp
  simp only [q]
  simp [go_sem,hc9,hc5]) hdr ?_
 obtain ⟨A5,hA5⟩:∃ Z,Z=A4.put (I 58) (E (I ⟨g,o+5,D⟩) 4 (c - 5)):=⟨_,rfl⟩
 rw [← hA5]
 have f5:Fr [53,54,55,57,58,61,63,56,59,60,62] b A5:=by rw [hA5]; exact f4.put (by decide) _
 have g5_53:A5.tmps[53]?=I (V U A):=by rw [hA5,Qab _ (by decide)]; exact g4_53
 have g5_54:A5.tmps[54]?=I (E (I ⟨g,o,D⟩) n c):=by rw [hA5,Qab _ (by decide)]; exact g4_54
 have g5_55:A5.tmps[55]?=I (E (I ⟨g,o+3,D⟩) 2 (c - 3)):=by rw [hA5,Qab _ (by decide)]; exact g4_55
 have g5_57:A5.tmps[57]?=I (E (I ⟨g,o,D⟩) n c):=by rw [hA5,Qab _ (by decide)]; exact g4_57
 have g5_58:A5.tmps[58]?=I (E (I ⟨g,o+5,D⟩) 4 (c - 5)):=by rw [hA5]; exact Qak _ (by rw [f4.size,hb]; decide)
 clear hA5
 show wpAnyH R .any ops (NoPanic Q) _ (7+1) #[true,true,true,false,true,true,false,false,false,false,false,false,false] _ _
 refine Qao h8' rfl rfl hns (tk1 t8) (tk2 t8) (v:=(Qga cc)) (fun _ _ _ _ h=>h) (fun W hW=>Qiw (g:=Y) (Qaf (f5.slot (by decide) s7)) (Qai (by rw [hW.block _ zY (by have:=hY.1; have:=hY.2; omega)]; exact bY))) hdr ?_
 obtain ⟨A6,hA6⟩:∃ Z,Z=A5.put (I 61) (Qga cc):=⟨_,rfl⟩
 rw [← hA6]
 have f6:Fr [53,54,55,57,58,61,63,56,59,60,62] b A6:=by rw [hA6]; exact f5.put (by decide) _
 have g6_53:A6.tmps[53]?=I (V U A):=by rw [hA6,Qab _ (by decide)]; exact g5_53
 have g6_54:A6.tmps[54]?=I (E (I ⟨g,o,D⟩) n c):=by rw [hA6,Qab _ (by decide)]; exact g5_54
 have g6_55:A6.tmps[55]?=I (E (I ⟨g,o+3,D⟩) 2 (c - 3)):=by rw [hA6,Qab _ (by decide)]; exact g5_55
 have g6_57:A6.tmps[57]?=I (E (I ⟨g,o,D⟩) n c):=by rw [hA6,Qab _ (by decide)]; exact g5_57
 have g6_58:A6.tmps[58]?=I (E (I ⟨g,o+5,D⟩) 4 (c - 5)):=by rw [hA6,Qab _ (by decide)]; exact g5_58
 have g6_61:A6.tmps[61]?=I (Qga cc):=by rw [hA6]; exact Qak _ (by rw [f5.size,hb]; decide)
 clear hA6
 show wpAnyH R .any ops (NoPanic Q) _ (6+1) #[true,true,true,false,true,true,false,false,true,false,false,false,false] _ _
 refine Qao h10' rfl rfl hns (tk1 t10) (tk2 t10) (v:=(.agg #[V U 0,V U 0,E D 0 0])) (fun _ _ _ _ h=>h) (fun W _=>run_of_buildN) hdr ?_
 obtain ⟨A7,hA7⟩:∃ Z,Z=A6.put (I 63) (.agg #[V U 0,V U 0,E D 0 0]):=⟨_,rfl⟩
 rw [← hA7]
 have f7:Fr [53,54,55,57,58,61,63,56,59,60,62] b A7:=by rw [hA7]; exact f6.put (by decide) _
 have g7_53:A7.tmps[53]?=I (V U A):=by rw [hA7,Qab _ (by decide)]; exact g6_53
 have g7_54:A7.tmps[54]?=I (E (I ⟨g,o,D⟩) n c):=by rw [hA7,Qab _ (by decide)]; exact g6_54
 have g7_55:A7.tmps[55]?=I (E (I ⟨g,o+3,D⟩) 2 (c - 3)):=by rw [hA7,Qab _ (by decide)]; exact g6_55
 have g7_57:A7.tmps[57]?=I (E (I ⟨g,o,D⟩) n c):=by rw [hA7,Qab _ (by decide)]; exact g6_57
 have g7_58:A7.tmps[58]?=I (E (I ⟨g,o+5,D⟩) 4 (c - 5)):=by rw [hA7,Qab _ (by decide)]; exact g6_58
 have g7_61:A7.tmps[61]?=I (Qga cc):=by rw [hA7,Qab _ (by decide)]; exact g6_61
 have g7_63:A7.tmps[63]?=I (.agg #[V U 0,V U 0,E D 0 0]):=by rw [hA7]; exact Qak _ (by rw [f6.size,hb]; decide)
 clear hA7
 show wpAnyH R .any ops (NoPanic Q) _ (5+1) #[true,true,true,false,true,true,false,false,true,false,true,false,false] _ _
 refine wpAnyH_all r3 (by simp) fun i hi=>?_
 obtain rfl:i=3:=by simpa using hi
 refine Qbo h3' rfl (Qkz (.tmp 55) (E (I ⟨g,o+3,D⟩) 2 (c - 3)) (Qaf g7_55) ((k3 _ hdr).mono ?_))
 rintro e w' ⟨rfl,rfl⟩
 refine ⟨_,rfl,hdr,?_⟩
 show wpAnyH R .any ops (NoPanic Q) _ 5 #[true,true,true,true,true,true,false,false,true,false,true,false,false] (A7.put (I 56) (V U (hh:Int))) _
 obtain ⟨A8,hA8⟩:∃ Z,Z=A7.put (I 56) (V U (hh:Int)):=⟨_,rfl⟩
 rw [← hA8]
 have f8:Fr [53,54,55,57,58,61,63,56,59,60,62] b A8:=by rw [hA8]; exact f7.put (by decide) _
 have g8_53:A8.tmps[53]?=I (V U A):=by rw [hA8,Qab _ (by decide)]; exact g7_53
 have g8_54:A8.tmps[54]?=I (E (I ⟨g,o,D⟩) n c):=by rw [hA8,Qab _ (by decide)]; exact g7_54
 have g8_55:A8.tmps[55]?=I (E (I ⟨g,o+3,D⟩) 2 (c - 3)):=by rw [hA8,Qab _ (by decide)]; exact g7_55
 have g8_57:A8.tmps[57]?=I (E (I ⟨g,o,D⟩) n c):=by rw [hA8,Qab _ (by decide)]; exact g7_57
 have g8_58:A8.tmps[58]?=I (E (I ⟨g,o+5,D⟩) 4 (c - 5)):=by rw [hA8,Qab _ (by decide)]; exact g7_58
 have g8_61:A8.tmps[61]?=I (Qga cc):=by rw [hA8,Qab _ (by decide)]; exact g7_61
 have g8_63:A8.tmps[63]?=I (.agg #[V U 0,V U 0,E D 0 0]):=by rw [hA8,Qab _ (by decide)]; exact g7_63
 have g8_56:A8.tmps[56]?=I (V U (hh:Int)):=by rw [hA8]; exact Qak _ (by rw [f7.size,hb]; decide)
 clear hA8
 show wpAnyH R .any ops (NoPanic Q) _ (4+1) #[true,true,true,true,true,true,false,false,true,false,true,false,false] _ _
 refine wpAnyH_all r6 (by simp) fun i hi=>?_
 obtain rfl:i=6:=by simpa using hi
 refine Qbo h6' rfl (Qkz (.tmp 58) (E (I ⟨g,o+5,D⟩) 4 (c - 5)) (Qaf g8_58) ((k6 _ hdr).mono ?_))
 rintro e w' ⟨rfl,rfl⟩
 refine ⟨_,rfl,hdr,?_⟩
 show wpAnyH R .any ops (NoPanic Q) _ 4 #[true,true,true,true,true,true,true,false,true,false,true,false,false] (A8.put (I 59) (V U (ii:Int))) _
 obtain ⟨A9,hA9⟩:∃ Z,Z=A8.put (I 59) (V U (ii:Int)):=⟨_,rfl⟩
 rw [← hA9]
 have f9:Fr [53,54,55,57,58,61,63,56,59,60,62] b A9:=by rw [hA9]; exact f8.put (by decide) _
 have g9_53:A9.tmps[53]?=I (V U A):=by rw [hA9,Qab _ (by decide)]; exact g8_53
 have g9_54:A9.tmps[54]?=I (E (I ⟨g,o,D⟩) n c):=by rw [hA9,Qab _ (by decide)]; exact g8_54
 have g9_55:A9.tmps[55]?=I (E (I ⟨g,o+3,D⟩) 2 (c - 3)):=by rw [hA9,Qab _ (by decide)]; exact g8_55
 have g9_57:A9.tmps[57]?=I (E (I ⟨g,o,D⟩) n c):=by rw [hA9,Qab _ (by decide)]; exact g8_57
 have g9_58:A9.tmps[58]?=I (E (I ⟨g,o+5,D⟩) 4 (c - 5)):=by rw [hA9,Qab _ (by decide)]; exact g8_58
 have g9_61:A9.tmps[61]?=I (Qga cc):=by rw [hA9,Qab _ (by decide)]; exact g8_61
 have g9_63:A9.tmps[63]?=I (.agg #[V U 0,V U 0,E D 0 0]):=by rw [hA9,Qab _ (by decide)]; exact g8_63
 have g9_56:A9.tmps[56]?=I (V U (hh:Int)):=by rw [hA9,Qab _ (by decide)]; exact g8_56
 have g9_59:A9.tmps[59]?=I (V U (ii:Int)):=by rw [hA9]; exact Qak _ (by rw [f8.size,hb]; decide)
 clear hA9
 show wpAnyH R .any ops (NoPanic Q) _ (3+1) #[true,true,true,true,true,true,true,false,true,false,true,false,false] _ _
 refine Qao h7' rfl rfl hns (tk1 t7) (tk2 t7) (v:=(V .u32 (ii:Int))) (fun _ _ _ _ h=>h) (fun W _=>by
  have q:=Qaf g9_59
  have i0:(0:Int)≤(ii:Int):=Int.natCast_nonneg _
  have i1:(ii:Int) < 4294967296:=by omega
  unfold execOp
  simp only [q]
  simp [go_sem]
  rw [IntKind.wrap_u32]
  omega) hdr ?_
 obtain ⟨A10,hA10⟩:∃ Z,Z=A9.put (I 60) (V .u32 (ii:Int)):=⟨_,rfl⟩
 rw [← hA10]
 have f10:Fr [53,54,55,57,58,61,63,56,59,60,62] b A10:=by rw [hA10]; exact f9.put (by decide) _
 have g10_53:A10.tmps[53]?=I (V U A):=by rw [hA10,Qab _ (by decide)]; exact g9_53
 have g10_54:A10.tmps[54]?=I (E (I ⟨g,o,D⟩) n c):=by rw [hA10,Qab _ (by decide)]; exact g9_54
 have g10_55:A10.tmps[55]?=I (E (I ⟨g,o+3,D⟩) 2 (c - 3)):=by rw [hA10,Qab _ (by decide)]; exact g9_55
 have g10_57:A10.tmps[57]?=I (E (I ⟨g,o,D⟩) n c):=by rw [hA10,Qab _ (by decide)]; exact g9_57
 have g10_58:A10.tmps[58]?=I (E (I ⟨g,o+5,D⟩) 4 (c - 5)):=by rw [hA10,Qab _ (by decide)]; exact g9_58
 have g10_61:A10.tmps[61]?=I (Qga cc):=by rw [hA10,Qab _ (by decide)]; exact g9_61
 have g10_63:A10.tmps[63]?=I (.agg #[V U 0,V U 0,E D 0 0]):=by rw [hA10,Qab _ (by decide)]; exact g9_63
 have g10_56:A10.tmps[56]?=I (V U (hh:Int)):=by rw [hA10,Qab _ (by decide)]; exact g9_56
 have g10_59:A10.tmps[59]?=I (V U (ii:Int)):=by rw [hA10,Qab _ (by decide)]; exact g9_59
 have g10_60:A10.tmps[60]?=I (V .u32 (ii:Int)):=by rw [hA10]; exact Qak _ (by rw [f9.size,hb]; decide)
 clear hA10
 show wpAnyH R .any ops (NoPanic Q) _ (2+1) #[true,true,true,true,true,true,true,true,true,false,true,false,false] _ _
 refine Qao h9' rfl rfl hns (tk1 t9) (tk2 t9) (v:=(.agg (Qce A hh ii cc))) (fun _ _ _ _ h=>h) (fun W _=>Qhd (Qaf g10_53) (Qaf g10_56) (Qaf g10_60) (Qaf g10_61)) hdr ?_
 obtain ⟨A11,hA11⟩:∃ Z,Z=A10.put (I 62) (.agg (Qce A hh ii cc)):=⟨_,rfl⟩
 rw [← hA11]
 have f11:Fr [53,54,55,57,58,61,63,56,59,60,62] b A11:=by rw [hA11]; exact f10.put (by decide) _
 have g11_53:A11.tmps[53]?=I (V U A):=by rw [hA11,Qab _ (by decide)]; exact g10_53
 have g11_54:A11.tmps[54]?=I (E (I ⟨g,o,D⟩) n c):=by rw [hA11,Qab _ (by decide)]; exact g10_54
 have g11_55:A11.tmps[55]?=I (E (I ⟨g,o+3,D⟩) 2 (c - 3)):=by rw [hA11,Qab _ (by decide)]; exact g10_55
 have g11_57:A11.tmps[57]?=I (E (I ⟨g,o,D⟩) n c):=by rw [hA11,Qab _ (by decide)]; exact g10_57
 have g11_58:A11.tmps[58]?=I (E (I ⟨g,o+5,D⟩) 4 (c - 5)):=by rw [hA11,Qab _ (by decide)]; exact g10_58
 have g11_61:A11.tmps[61]?=I (Qga cc):=by rw [hA11,Qab _ (by decide)]; exact g10_61
 have g11_63:A11.tmps[63]?=I (.agg #[V U 0,V U 0,E D 0 0]):=by rw [hA11,Qab _ (by decide)]; exact g10_63
 have g11_56:A11.tmps[56]?=I (V U (hh:Int)):=by rw [hA11,Qab _ (by decide)]; exact g10_56
 have g11_59:A11.tmps[59]?=I (V U (ii:Int)):=by rw [hA11,Qab _ (by decide)]; exact g10_59
 have g11_60:A11.tmps[60]?=I (V .u32 (ii:Int)):=by rw [hA11,Qab _ (by decide)]; exact g10_60
 have g11_62:A11.tmps[62]?=I (.agg (Qce A hh ii cc)):=by rw [hA11]; exact Qak _ (by rw [f10.size,hb]; decide)
 clear hA11
 have v2:A11.tmps[2]?=I (M (I ⟨gO,0,D⟩)):=f11.slot (by decide) s2
 have v3:A11.tmps[3]?=I (M (I ⟨gN,0,D⟩)):=f11.slot (by decide) s3
 have bO':({ w1 with drawn:=w1.drawn+1 } : World).heap[gO]?=I (T C0 28 (0,0)):=bO
 have bN':(({ w1 with drawn:=w1.drawn+1 } : World).setCells gO 0 (Qce A hh ii cc).toList).heap[gN]?=I (T N0 38 (0,0)):=by rw [Qax hne]; exact bN
 show wpAnyH R .any ops (NoPanic Q) _ (1+1) #[true,true,true,true,true,true,true,true,true,true,true,false,false] _ _
 refine wpAnyH_all r11 (by simp) fun i hi=>?_
 obtain rfl:i=11:=by simpa using hi
 refine Qbo h11' rfl ?_
 unfold Oper.wp execOp
 simp only [Qaf v2,Qaf g11_62,Sem.run_bind,Qlg bO' hO (OC.made A hh ii cc),Result.andThen_ok,Sem.run_pure]
 refine ⟨hdr.setCells gO 0 _ (.inl (.inl rfl)),?_⟩
 show wpAnyH R .any ops (NoPanic Q) _ (0+1) #[true,true,true,true,true,true,true,true,true,true,true,true,false] A11 _
 refine wpAnyH_all r12 (by simp) fun i hi=>?_
 obtain rfl:i=12:=by simpa using hi
 refine Qbo h12' rfl ?_
 unfold Oper.wp execOp
 simp only [Qaf v3,Qaf g11_63,Sem.run_bind,run_storeAt_mid _ gN 0 38 (#[V U 0,V U 0,E D 0 0]:Array Value) (Qek bN' _ (by rw [hN]; decide)) infoN (by simp [Value.oneCell']),Result.andThen_ok,Sem.run_pure]
 refine ⟨(hdr.setCells gO 0 _ (.inl (.inl rfl))).setCells gN 0 _ (.inl (.inr rfl)),?_⟩
 show wpAnyH R .any ops (NoPanic Q) _ 0 #[true,true,true,true,true,true,true,true,true,true,true,true,true] A11 _
 exact wpAnyH_done rE (NoPanic.normal (fin _ v2 v3 f11.defers)) _
end
section
attribute [local go_sem ↓] Qfs keptO_alloc Qg9
theorem Qmd (g o n c:Nat)(bs:List Nat)(w:World)(hn:bs.length=n)(hn10:10≤n)(hl:n≤5000)(hcap:n≤c)(h:BRd w (I ⟨g,o,D⟩) bs)(h4:bs.getD 0 0=4)(hfit:bs.getD 9 0=n - 10)(cc:Cp)(hr:Qfc (bs.drop 10)=I cc)(hs:asB (Qcn ((bs.drop 1).take 2)) cc=true) :
  Calls R 21 #[E (I ⟨g,o,D⟩) n c] w fun e w'=>Qp0 w w' e (.inr (asV (Qcn ((bs.drop 1).take 2)) cc,Qcn ((bs.drop 3).take 2),Qcn ((bs.drop 5).take 4),cc))∧Below w.heap.size w w':=by
 obtain ⟨g',o',e9,hc⟩:=h.1.2 (by omega)
 cases e9
 have h0:w.cell? ⟨g,o,D⟩=I (V .u8 4):=by have:=hc 0 (by omega); rw [Nat.add_zero] at this; rw [this]; show I (Value.int .u8 ((bs.getD 0 0:Nat):Int))=_; rw [h4]; rfl
 have zg:=World.block_lt_of_cell? w _ h0
 simp only at zg
 have HW:Hid (OW w ((w.alloc (T zO 28)).alloc (T #[V U 0,V U 0,E D 0 0] 38))):=OW.made w
 have c0:((w.alloc (T zO 28)).alloc (T #[V U 0,V U 0,E D 0 0] 38)).cell? ⟨g,o,D⟩=I (V .u8 4):=by rw [HW.out.bel.cell (p:=⟨g,o,D⟩) zg]; exact h0
 have hc9:¬ c=9:=by omega
 have KC:=Qaa (Ql1 (w:=((w.alloc (T zO 28)).alloc (T #[V U 0,V U 0,E D 0 0] 38))) hn hn10 hl hcap (h.below HW.out.bel) hfit)
 have hpl:(bs.drop 10).length=n - 10:=by rw [List.length_drop]; omega
 have KD:Hid (∀ m ap cp,n - 10≤cp→BRd ((w.alloc (T zO 28)).alloc (T #[V U 0,V U 0,E D 0 0] 38)) ap (bs.drop 10)→Calls R 40 #[E ap (n - 10) cp] (((w.alloc (T zO 28)).alloc (T #[V U 0,V U 0,E D 0 0] 38)).drewN m) fun e w'=>e=L (Qpy (Qfc (bs.drop 10)))∧Hid (Below w.heap.size w w')∧Hid (OW w w')):=fun m ap cp h1 h2=>by
  have:=Qll ap cp (bs.drop 10) (((w.alloc (T zO 28)).alloc (T #[V U 0,V U 0,E D 0 0] 38)).drewN m) (by omega) (by omega) (h2.below ⟨rfl,rfl,rfl,N _,fun _ _=>rfl⟩)
  rw [hpl] at this
  refine this.mono ?_
  rintro e w' ⟨rfl,hb⟩
  have hw:=(HW.out.later (W':=((w.alloc (T zO 28)).alloc (T #[V U 0,V U 0,E D 0 0] 38)).drewN m) ⟨rfl,rfl,rfl,N _,fun _ _=>rfl⟩).later hb
  exact ⟨rfl,hw.bel,hw⟩
 have KE:Hid (∀ X s,OW w X→Calls R 20 #[V U 2,V U ((s:Nat):Int),E D 0 0] X fun e w3=>∃ a9 c9 W5,e=L (.agg #[V U 2,V U (s:Int),E a9 0 c9])∧Hid ((Instr.storeAt 28 (M (I ⟨w.heap.size,0,D⟩)) (.agg zO)).run R w3=.ok () W5)∧Hid (Qc3 W5 (w.heap.size+1))∧Hid (Jbq w W5 2 s [] a9 0 c9)):=fun X s hX=>Qht w X hX 2 s D 0 0 [] rfl (by decide) (Qbf _ _)
 unfold Qp0 Qby
 simp only
 have hni:(9:Int)≤(n:Int):=by omega
 have hnc:(n:Int)≤(c:Int):=by omega
 have hn0:(0:Int) < (n:Int):=by omega
 simp only [hr,Qpy,Qga,Option.getD_some,Option.isSome_some] at KD
 have HN:Hid (∀ X,Below w.heap.size w X→Calls R 38 #[E (I ⟨g,o+1,D⟩) 2 (c - 1)] X fun e w'=>e=L (V U (Qcn ((bs.drop 1).take 2):Int))∧w'=X):=fun X hX=>Qqd (h.below hX) (by omega) (by omega) (by omega)
 have HN3:Hid (∀ X,Below w.heap.size w X→Calls R 38 #[E (I ⟨g,o+3,D⟩) 2 (c - 3)] X fun e w'=>e=L (V U (Qcn ((bs.drop 3).take 2):Int))∧w'=X):=fun X hX=>Qqd (h.below hX) (by omega) (by omega) (by omega)
 have HN5:Hid (∀ X,Below w.heap.size w X→Calls R 38 #[E (I ⟨g,o+5,D⟩) 4 (c - 5)] X fun e w'=>e=L (V U (Qcn ((bs.drop 5).take 4):Int))∧w'=X):=fun X hX=>Qqd (h.below hX) (by omega) (by omega) (by omega)
 have hid:Qcn ((bs.drop 5).take 4) < 4294967296:=by
  have h9:=Qjo ((bs.drop 5).take 4) (Qcq h 5 4 (by omega)).2
  have hl4:((bs.drop 5).take 4).length=4:=by rw [List.length_take,List.length_drop]; omega
  rw [hl4] at h9
  exact h9
 have HA:Hid (∀ X,Calls R 41 #[V U (Qcn ((bs.drop 1).take 2):Int),.agg #[J cc.four,V U cc.as4,J cc.gr,J cc.rs,V U cc.tm,J cc.fam,J cc.fwd,J cc.ll,V U cc.lt]] X fun e w'=>e=L (.tuple #[V U (asV (Qcn ((bs.drop 1).take 2)) cc),J true])∧Below X.heap.size X w'):=fun X=>by
  have:=Qk4 (Qcn ((bs.drop 1).take 2)) cc X
  rw [hs] at this
  exact this
 have hl5:=hl
 have HL5:=Qaa hl5
 have HCA:=Qaa hcap
 clear hc h hfit h4 hcap hl hl5 hn hpl hr hs
 generalize asV (Qcn ((bs.drop 1).take 2)) cc=AV at *
 generalize Qcn ((bs.drop 1).take 2)=s at *
 generalize Qcn ((bs.drop 3).take 2)=hh at *
 generalize Qcn ((bs.drop 5).take 4)=ii at *
 obtain ⟨four,as4,gr,rs,tm,fam,fwd,ll,lt⟩:=cc
 simp only at KD HA
 have hc1:¬ c=1:=by omega
 go_enter Tryz.func21,Tryz.ntmps21
 go_wp2_with (first | (refine Qc0 _ (Qfi w) ?_))
 with_reducible refine KC.out.mono ?_
 rintro e w1 ⟨ap,cp,aq,cq,m,rfl,rfl,HP,hcp⟩
 go_wp2_with fail
 with_reducible refine (KD.out m ap cp hcp HP.out).mono ?_
 rintro e w2 ⟨rfl,HB2,HW2⟩
 have HBA:Hid (Below w.heap.size w (w2.alloc (T #[J four,V U as4,J gr,J rs,V U tm,J fam,J fwd,J ll,V U lt] 26))):=HB2.out.alloc HB2.out.size _
 have HWA:Hid (OW w (w2.alloc (T #[J four,V U as4,J gr,J rs,V U tm,J fam,J fwd,J ll,V U lt] 26))):=HW2.out.later ((Below.refl _ _).alloc (N _) _)
 have HYA:Hid ((w2.alloc (T #[J four,V U as4,J gr,J rs,V U tm,J fam,J fwd,J ll,V U lt] 26)).heap[w2.heap.size]?=I (T #[J four,V U as4,J gr,J rs,V U tm,J fam,J fwd,J ll,V U lt] 26 (0,0))):=heap_alloc_new w2 _
 have hz2:w.heap.size+1 < w2.heap.size:=(Array.getElem?_eq_some_iff.1 HW2.out.bN).1
 have KN:Hid (∀ x:Qap (w2.alloc (T #[J four,V U as4,J gr,J rs,V U tm,J fam,J fwd,J ll,V U lt] 26)),Calls R 38 #[E (I ⟨g,o+1,D⟩) 2 (c - 1)] x.w fun e w'=>e=L (V U (s:Int))∧∃ y:Qap (w2.alloc (T #[J four,V U as4,J gr,J rs,V U tm,J fam,J fwd,J ll,V U lt] 26)),w'=y.w):=fun x=>Qfn x (HN.out x.w (HBA.out.trans (x.h.mono HBA.out.size)))
 have KA:Hid (∀ x:Qap (w2.alloc (T #[J four,V U as4,J gr,J rs,V U tm,J fam,J fwd,J ll,V U lt] 26)),Calls R 41 #[V U (s:Int),.agg #[J four,V U as4,J gr,J rs,V U tm,J fam,J fwd,J ll,V U lt]] x.w fun e w'=>e=L (.tuple #[V U AV,J true])∧∃ y:Qap (w2.alloc (T #[J four,V U as4,J gr,J rs,V U tm,J fam,J fwd,J ll,V U lt] 26)),w'=y.w):=fun x=>Qe1 x (HA.out x.w)
 have y0:∀ x:Qap (w2.alloc (T #[J four,V U as4,J gr,J rs,V U tm,J fam,J fwd,J ll,V U lt] 26)),x.w.cell? ⟨w2.heap.size,0,D⟩=I (J four):=fun x=>x.cell (by simp [go_sem])
 have y1:∀ x:Qap (w2.alloc (T #[J four,V U as4,J gr,J rs,V U tm,J fam,J fwd,J ll,V U lt] 26)),x.w.cell? ⟨w2.heap.size,1,D⟩=I (V U as4):=fun x=>x.cell (by simp [go_sem])
 have y2:∀ x:Qap (w2.alloc (T #[J four,V U as4,J gr,J rs,V U tm,J fam,J fwd,J ll,V U lt] 26)),x.w.cell? ⟨w2.heap.size,2,D⟩=I (J gr):=fun x=>x.cell (by simp [go_sem])
 have y3:∀ x:Qap (w2.alloc (T #[J four,V U as4,J gr,J rs,V U tm,J fam,J fwd,J ll,V U lt] 26)),x.w.cell? ⟨w2.heap.size,3,D⟩=I (J rs):=fun x=>x.cell (by simp [go_sem])
 have y4:∀ x:Qap (w2.alloc (T #[J four,V U as4,J gr,J rs,V U tm,J fam,J fwd,J ll,V U lt] 26)),x.w.cell? ⟨w2.heap.size,4,D⟩=I (V U tm):=fun x=>x.cell (by simp [go_sem])
 have y5:∀ x:Qap (w2.alloc (T #[J four,V U as4,J gr,J rs,V U tm,J fam,J fwd,J ll,V U lt] 26)),x.w.cell? ⟨w2.heap.size,5,D⟩=I (J fam):=fun x=>x.cell (by simp [go_sem])
 have y6:∀ x:Qap (w2.alloc (T #[J four,V U as4,J gr,J rs,V U tm,J fam,J fwd,J ll,V U lt] 26)),x.w.cell? ⟨w2.heap.size,6,D⟩=I (J fwd):=fun x=>x.cell (by simp [go_sem])
 have y7:∀ x:Qap (w2.alloc (T #[J four,V U as4,J gr,J rs,V U tm,J fam,J fwd,J ll,V U lt] 26)),x.w.cell? ⟨w2.heap.size,7,D⟩=I (J ll):=fun x=>x.cell (by simp [go_sem])
 have y8:∀ x:Qap (w2.alloc (T #[J four,V U as4,J gr,J rs,V U tm,J fam,J fwd,J ll,V U lt] 26)),x.w.cell? ⟨w2.heap.size,8,D⟩=I (V U lt):=fun x=>x.cell (by simp [go_sem])
 have hne:=Qbh (w2.alloc (T #[J four,V U as4,J gr,J rs,V U tm,J fam,J fwd,J ll,V U lt] 26))
 go_wp2_with fail
 refine Qa5 (by kernel_rfl) (by kernel_rfl) ?_
 repeat (go_big_quiet_step (first | (go_at_call 38; with_reducible exact KN.out _) | (go_at_call 41; with_reducible exact KA.out _)))
 refine wpQuiet_nil ?_
 rintro _ ⟨xq,rfl⟩
 have HWX:=Qaa (HWA.out.later xq.h)
 have HYX:Hid (xq.w.heap[w2.heap.size]?=I (T (Qx7 ⟨four,as4,gr,rs,tm,fam,fwd,ll,lt⟩) 26 (0,0))):=by
  show _=_
  rw [xq.h.block _ (by simp)]; exact HYA.out
 have kb:∀ X,Qae (fun k=>k=w.heap.size∨k=w.heap.size+1) xq.w X→Below w.heap.size w X:=fun X hX=>HWX.out.bel.trans (hX.below _ HWX.out.bel.size (fun x e=>by omega))
 have HKB:=Qaa kb
 clear kb
 go_wp2_with fail
 refine Qxc _ xq.w w.heap.size (w.heap.size+1) w2.heap.size g o n c AV hh ii ⟨four,as4,gr,rs,tm,fam,fwd,ll,lt⟩ zO #[V U 0,V U 0,E D 0 0] (opi rfl) (opi rfl) (opi rfl) (opi rfl) (opi rfl) (opi rfl) (opi rfl) (opi rfl) (opi rfl) (opi rfl) (opi rfl) (opi rfl) (opi rfl) rfl (by kernel_rfl)
  (by kernel_rfl) (by kernel_rfl) (by kernel_rfl) (by kernel_rfl) (by kernel_rfl) (by kernel_rfl) (by kernel_rfl) (by kernel_rfl) (by kernel_rfl) (by kernel_rfl) (by kernel_rfl) (by kernel_rfl) (by kernel_rfl) (by kernel_rfl)
  rfl rfl rfl rfl rfl rfl hn10 HL5.out HCA.out hid HWX.out.bO HWX.out.bN (by omega) rfl rfl HYX.out (by omega) (fun X hX=>HN3.out X (HKB.out X hX)) (fun X hX=>HN5.out X (HKB.out X hX)) ?_
 intro a v2 v3 hd
 have hd0:a.defers=[]:=hd
 have HRO:Hid (((({ xq.w with drawn:=xq.w.drawn+1 } : World).setCells w.heap.size 0 (Qce AV hh ii ⟨four,as4,gr,rs,tm,fam,fwd,ll,lt⟩).toList).setCells (w.heap.size+1) 0 (#[V U 0,V U 0,E D 0 0]:Array Value).toList).rangeAt w.heap.size 0 (Qce AV hh ii ⟨four,as4,gr,rs,tm,fam,fwd,ll,lt⟩).toList):=Qb7 (Qb2 (w:={ xq.w with drawn:=xq.w.drawn+1 }) (C0:=zO) (t:=28) HWX.out.bO (by rw [(OC.made _ _ _ _).1,OC.zero.1]; omega)) (by omega)
 have HRN:Hid (((({ xq.w with drawn:=xq.w.drawn+1 } : World).setCells w.heap.size 0 (Qce AV hh ii ⟨four,as4,gr,rs,tm,fam,fwd,ll,lt⟩).toList).setCells (w.heap.size+1) 0 (#[V U 0,V U 0,E D 0 0]:Array Value).toList).rangeAt (w.heap.size+1) 0 (#[V U 0,V U 0,E D 0 0]:Array Value).toList) :=
  Qb2 (C0:=#[V U 0,V U 0,E D 0 0]) (t:=38) (by rw [Qax (by omega)]; exact HWX.out.bN) (by simp)
 have HBE:Hid (Below w.heap.size w ((({ xq.w with drawn:=xq.w.drawn+1 } : World).setCells w.heap.size 0 (Qce AV hh ii ⟨four,as4,gr,rs,tm,fam,fwd,ll,lt⟩).toList).setCells (w.heap.size+1) 0 (#[V U 0,V U 0,E D 0 0]:Array Value).toList)) :=
  HKB.out _ ((Qae.setCells (w:=xq.w) (w1:={ xq.w with drawn:=xq.w.drawn+1 }) ⟨rfl,rfl,rfl,N _,fun _ _ _=>rfl⟩ _ 0 _ (.inl (.inl rfl))).setCells _ 0 _ (.inl (.inr rfl)))
 generalize ((({ xq.w with drawn:=xq.w.drawn+1 } : World).setCells w.heap.size 0 (Qce AV hh ii ⟨four,as4,gr,rs,tm,fam,fwd,ll,lt⟩).toList).setCells (w.heap.size+1) 0 (#[V U 0,V U 0,E D 0 0]:Array Value).toList)=W9 at *
 go_wp2_with fail
 exact bodyPost_ret (v:=.tuple #[.agg (Qce AV hh ii ⟨four,as4,gr,rs,tm,fam,fwd,ll,lt⟩),.agg #[V U 0,V U 0,E D 0 0]]) (Qar Tryz.results21 _ W9 w.heap.size (w.heap.size+1) (Qce AV hh ii ⟨four,as4,gr,rs,tm,fam,fwd,ll,lt⟩) #[V U 0,V U 0,E D 0 0] v2 v3 HRO.out HRN.out Tryz.underlying28 rfl infoO Tryz.underlying38 rfl infoN) hd0 ⟨rfl,HBE.out⟩
end
theorem Qio (g o n c:Nat)(bs:List Nat)(w:World)(hn:bs.length=n)(hn10:10≤n)(hl:n≤5000)(hcap:n≤c)(h:BRd w (I ⟨g,o,D⟩) bs) :
  Calls R 21 #[E (I ⟨g,o,D⟩) n c] w fun e w'=>Qp0 w w' e (Qgu bs)∧Below w.heap.size w w':=by
 unfold Qgu
 by_cases h4:bs.getD 0 0=4
 ·rw [if_neg (fun x=>x h4)]
  by_cases hf:bs.getD 9 0=n - 10
  ·rw [hn,if_neg (fun x=>x hf)]
   cases hr:Qfc (bs.drop 10) with
   | none=>exact Qlu g o n c bs w hn hn10 hl hcap h h4 hf hr
   | some cc =>
    simp only
    by_cases hs:asB (Qcn ((bs.drop 1).take 2)) cc=true
    ·rw [if_pos hs]; exact Qmd g o n c bs w hn hn10 hl hcap h h4 hf cc hr hs
    ·rw [if_neg hs]; exact Qow g o n c bs w hn hn10 hl hcap h h4 hf cc hr (by simpa using hs)
  ·rw [hn,if_pos hf]; exact Qoa g o n c bs w hn hn10 hl hcap h h4 hf
 ·rw [if_pos h4]
  obtain ⟨g',o',e9,hc⟩:=h.1.2 (by omega)
  cases e9
  exact Qmq g o n c (bs.getD 0 0) w hn10 (by have:=hc 0 (by omega); rwa [Nat.add_zero] at this) h4
