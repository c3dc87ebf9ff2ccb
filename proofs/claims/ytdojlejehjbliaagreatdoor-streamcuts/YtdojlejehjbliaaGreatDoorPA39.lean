import Derived.Test.YtdojlejehjbliaaGreatDoorPA37
namespace Go.Proofs.YtdojlejehjbliaaGreatDoor
set_option maxHeartbeats 4000000
open _root_.Option renaming some → I,none → D
open _root_.Go.Value renaming int → J,slice → T,pointer → O,bool → H
open _root_.Go.Proofs.Tryz renaming prog → U
open _root_.Go.IntKind renaming i64 → E
open _root_.Go.Obj renaming cells → C
open Go.RowKit
set_option maxRecDepth 100000
section
variable {a:Act}{w:World}{dst:Option Tmp}{ty:TypeId}{pos:String}{after:Array Edge}{K:Act→World→Prop}{Q:Exit→Act→World→Prop}{ρ:Operand→Value}
theorem Qwu (x:Operand)(u:Value)(hf:ρ (.func 25)=.func (.func 25) #[] #[])(hx:ρ x=u) :
  (execOp ρ { dst:=dst,op:=.call { callee:=.value (.func 25),args:=#[x],argTypes:=#[22] },type:=ty,pos:=pos,after:=after,guard:=D }).run U w=.ok (.enter 25 #[u]) w:=by
 unfold execOp
 simp [resolve,invoke,hf,hx,go_sem]
theorem Qvm (x:Operand)(u:Value)(hx:a.eval x=u)(h:Calls U 25 #[u] w fun e w'=>∃ r,e=.returned r∧K (a.put dst r) w') :
  Oper.wp U { dst:=dst,op:=.call { callee:=.value (.func 25),args:=#[x],argTypes:=#[22] },type:=ty,pos:=pos,after:=after,guard:=D } a w K Q:=by
 unfold Oper.wp
 rw [Qwu (ρ:=a.eval) x u rfl hx]
 refine Calls.mono h ?_
 rintro _ w' ⟨r,rfl,hk⟩
 exact hk
end
section
variable {ops:Array Oper}{Q:Exit→Act→World→Prop}{id:Nat}
theorem Qmr (b:Act)(w1:World)(X Y g o n c x y hh ii:Nat)(A:Int)(cc:Cp)
  (o0:opk ops 0 (I 109) (.move (.tmp 10)))
  (o1:opk ops 1 (I 110) (.move (.tmp 7)))
  (o2:opk ops 2 (I 111) (.indexAddr 22 (.tmp 110) (.const (J E 3))))
  (o3:opk ops 3 (I 112) (.load 5 (.tmp 111)))
  (o4:opk ops 4 (I 113) (.convert 5 3 (.tmp 112)))
  (o5:opk ops 5 (I 114) (.binOp .mul 3 (.const (J E 256)) (.tmp 113) 3))
  (o6:opk ops 6 (I 115) (.move (.tmp 7)))
  (o7:opk ops 7 (I 116) (.indexAddr 22 (.tmp 115) (.const (J E 4))))
  (o8:opk ops 8 (I 117) (.load 5 (.tmp 116)))
  (o9:opk ops 9 (I 118) (.convert 5 3 (.tmp 117)))
  (o10:opk ops 10 (I 119) (.binOp .add 3 (.tmp 114) (.tmp 118) 3))
  (o11:opk ops 11 (I 120) (.move (.tmp 7)))
  (o12:opk ops 12 (I 121) (.slice 22 (.tmp 120) (I (.const (J E 5))) D D))
  (o13:opk ops 13 (I 122) (.call { callee:=.value (.func 25),args:=#[.tmp 121],argTypes:=#[22] }))
  (o14:opk ops 14 (I 123) (.convert 3 24 (.tmp 122)))
  (o15:opk ops 15 (I 124) (.load 26 (.tmp 8)))
  (o16:opk ops 16 (I 125) (.build 28 #[(0,.tmp 109),(1,.tmp 119),(2,.tmp 123),(3,.tmp 124)]))
  (o17:opk ops 17 (I 126) (.fieldAddr 40 (.tmp 6) 1))
  (o18:opk ops 18 D (.store 28 (.tmp 126) (.tmp 125)))
  (hsz:ops.size=19) (hns:Region.noSelect ops=true)
  (t0:tk ops #[false,false,false,false,false,false,false,false,false,false,false,false,false,false,false,false,false,false,false] 0=true)
  (t1:tk ops #[true,false,false,false,false,false,false,false,false,false,false,false,false,false,false,false,false,false,false] 1=true)
  (t2:tk ops #[true,true,false,false,false,false,false,false,false,false,false,false,false,false,false,false,false,false,false] 2=true)
  (t3:tk ops #[true,true,true,false,false,false,false,false,false,false,false,false,false,false,false,false,false,false,false] 3=true)
  (t4:tk ops #[true,true,true,true,false,false,false,false,false,false,false,false,false,false,false,false,false,false,false] 4=true)
  (t5:tk ops #[true,true,true,true,true,false,false,false,false,false,false,false,false,false,false,false,false,false,false] 5=true)
  (t6:tk ops #[true,true,true,true,true,true,false,false,false,false,false,false,false,false,false,false,false,false,false] 6=true)
  (t7:tk ops #[true,true,true,true,true,true,true,false,false,false,false,false,false,false,false,false,false,false,false] 7=true)
  (t8:tk ops #[true,true,true,true,true,true,true,true,false,false,false,false,false,false,false,false,false,false,false] 8=true)
  (t9:tk ops #[true,true,true,true,true,true,true,true,true,false,false,false,false,false,false,false,false,false,false] 9=true)
  (t10:tk ops #[true,true,true,true,true,true,true,true,true,true,false,false,false,false,false,false,false,false,false] 10=true)
  (t11:tk ops #[true,true,true,true,true,true,true,true,true,true,true,false,false,false,false,false,false,false,false] 11=true)
  (t12:tk ops #[true,true,true,true,true,true,true,true,true,true,true,true,false,false,false,false,false,false,false] 12=true)
  (t15:tk ops #[true,true,true,true,true,true,true,true,true,true,true,true,true,false,false,false,false,false,false] 15=true)
  (r13:Region.ready .any ops #[true,true,true,true,true,true,true,true,true,true,true,true,true,false,false,true,false,false,false]=[13])
  (t14:tk ops #[true,true,true,true,true,true,true,true,true,true,true,true,true,true,false,true,false,false,false] 14=true)
  (t16:tk ops #[true,true,true,true,true,true,true,true,true,true,true,true,true,true,true,true,false,false,false] 16=true)
  (t17:tk ops #[true,true,true,true,true,true,true,true,true,true,true,true,true,true,true,true,true,false,false] 17=true)
  (r18:Region.ready .any ops #[true,true,true,true,true,true,true,true,true,true,true,true,true,true,true,true,true,true,false]=[18])
  (rE:Region.ready .any ops #[true,true,true,true,true,true,true,true,true,true,true,true,true,true,true,true,true,true,true]=[])
  (hb:b.tmps.size=247) (s7:b.tmps[7]?=I (T (I ⟨g,o,D⟩) n c)) (s6:b.tmps[6]?=I (O (I ⟨Y,0,D⟩))) (s8:b.tmps[8]?=I (O (I ⟨X,0,D⟩))) (s10:b.tmps[10]?=I (J E A))
  (hn:10≤n) (hl:n≤5000) (hc:n≤c) (hx:x < 256) (hy:y < 256) (hhh:hh=256 * x+y) (hii:ii < 4294967296) (cx:w1.cell? ⟨g,o+3,D⟩=I (J .u8 (x:Int))) (cy:w1.cell? ⟨g,o+4,D⟩=I (J .u8 (y:Int)))
  (hgY:g≠Y) (hXY:X≠Y) (bX:w1.heap[X]?=I (C (Qx7 cc) 26 (0,0))) (bY:w1.heap[Y]?=I (C (Qbt 1 0 0 (T D 0 0)) 40 (0,0)))
  (k13:∀ X,Qae (fun k=>k=Y) w1 X→Calls U 25 #[T (I ⟨g,o+5,D⟩) (n - 5) (c - 5)] X fun e w'=>e=.returned (J E (ii:Int))∧∃ k,w'=X.drewN k)
  (fin:∀ a W8 W9,Fr [109,110,111,112,113,114,115,116,117,118,119,120,121,122,123,124,125,126] b a→Below w1.heap.size w1 W8→Qae (fun k=>k=Y) W8 W9→W9.heap[Y]?=I (C (openMsg 1 (Qce A hh ii cc)) 40 (0,0))→W9.heap.size=W8.heap.size→Q .normal a W9) :
  (Code.region id ops true).wp U Q b w1:=by
 obtain ⟨a0,p0,e0,h0'⟩:=o0
 obtain ⟨a1,p1,e1,h1'⟩:=o1
 obtain ⟨a2,p2,e2,h2'⟩:=o2
 obtain ⟨a3,p3,e3,h3'⟩:=o3
 obtain ⟨a4,p4,e4,h4'⟩:=o4
 obtain ⟨a5,p5,e5,h5'⟩:=o5
 obtain ⟨a6,p6,e6,h6'⟩:=o6
 obtain ⟨a7,p7,e7,h7'⟩:=o7
 obtain ⟨a8,p8,e8,h8'⟩:=o8
 obtain ⟨a9,p9,e9,h9'⟩:=o9
 obtain ⟨a10,p10,e10,h10'⟩:=o10
 obtain ⟨a11,p11,e11,h11'⟩:=o11
 obtain ⟨a12,p12,e12,h12'⟩:=o12
 obtain ⟨a13,p13,e13,h13'⟩:=o13
 obtain ⟨a14,p14,e14,h14'⟩:=o14
 obtain ⟨a15,p15,e15,h15'⟩:=o15
 obtain ⟨a16,p16,e16,h16'⟩:=o16
 obtain ⟨a17,p17,e17,h17'⟩:=o17
 obtain ⟨a18,p18,e18,h18'⟩:=o18
 have zg:=World.block_lt_of_cell? w1 _ cx
 simp only at zg
 have zX:=(Array.getElem?_eq_some_iff.1 bX).1
 have hn3:(3:Int) < (n:Int):=by omega
 have hn4:(4:Int) < (n:Int):=by omega
 have hn5:(5:Int)≤(n:Int):=by omega
 have hc5:¬ c=5:=by omega
 refine wp_region_noPanic ?_
 refine wp_region_held (S:=fun W=>Qae (fun k=>k=Y) w1 W) (by kernel_rfl) ?_
 rw [hsz]
 have hdr:Qae (fun k=>k=Y) w1 { w1 with drawn:=w1.drawn+1 }:=⟨rfl,rfl,rfl,Nat.le_refl _,fun _ _ _=>rfl⟩
 have f0:Fr [109,110,111,112,113,114,115,116,117,118,119,120,121,122,123,124,125,126] b b:=Fr.refl _ _
 show wpAnyH U .any ops (NoPanic Q) _ (18+1) #[false,false,false,false,false,false,false,false,false,false,false,false,false,false,false,false,false,false,false] _ _
 refine Qao h0' rfl rfl hns (tk1 t0) (tk2 t0) (v:=(J E A)) (fun _ _ _ _ h=>h) (fun W _=>Qdg _ W _ _ _ rfl (Qaf (f0.slot (by decide) s10))) hdr ?_
 obtain ⟨A1,hA1⟩:∃ Z,Z=b.put (I 109) (J E A):=⟨_,rfl⟩
 rw [← hA1]
 have f1:Fr [109,110,111,112,113,114,115,116,117,118,119,120,121,122,123,124,125,126] b A1:=by rw [hA1]; exact f0.put (by decide) _
 have g1_109:A1.tmps[109]?=I (J E A):=by rw [hA1]; exact Qak _ (by rw [f0.size,hb]; decide)
 clear hA1
 show wpAnyH U .any ops (NoPanic Q) _ (17+1) #[true,false,false,false,false,false,false,false,false,false,false,false,false,false,false,false,false,false,false] _ _
 refine Qao h1' rfl rfl hns (tk1 t1) (tk2 t1) (v:=(T (I ⟨g,o,D⟩) n c)) (fun _ _ _ _ h=>h) (fun W _=>Qdg _ W _ _ _ rfl (Qaf (f1.slot (by decide) s7))) hdr ?_
 obtain ⟨A2,hA2⟩:∃ Z,Z=A1.put (I 110) (T (I ⟨g,o,D⟩) n c):=⟨_,rfl⟩
 rw [← hA2]
 have f2:Fr [109,110,111,112,113,114,115,116,117,118,119,120,121,122,123,124,125,126] b A2:=by rw [hA2]; exact f1.put (by decide) _
 have g2_109:A2.tmps[109]?=I (J E A):=by rw [hA2,Qab _ (by decide)]; exact g1_109
 have g2_110:A2.tmps[110]?=I (T (I ⟨g,o,D⟩) n c):=by rw [hA2]; exact Qak _ (by rw [f1.size,hb]; decide)
 clear hA2
 show wpAnyH U .any ops (NoPanic Q) _ (16+1) #[true,true,false,false,false,false,false,false,false,false,false,false,false,false,false,false,false,false,false] _ _
 refine Qao h2' rfl rfl hns (tk1 t2) (tk2 t2) (v:=(O (I ⟨g,o+3,D⟩))) (fun _ _ _ _ h=>h) (fun W _=>by
  have q:=Qaf g2_110
  unfold execOp
  simp only [q]
  simp [go_sem,hn3]) hdr ?_
 obtain ⟨A3,hA3⟩:∃ Z,Z=A2.put (I 111) (O (I ⟨g,o+3,D⟩)):=⟨_,rfl⟩
 rw [← hA3]
 have f3:Fr [109,110,111,112,113,114,115,116,117,118,119,120,121,122,123,124,125,126] b A3:=by rw [hA3]; exact f2.put (by decide) _
 have g3_109:A3.tmps[109]?=I (J E A):=by rw [hA3,Qab _ (by decide)]; exact g2_109
 have g3_110:A3.tmps[110]?=I (T (I ⟨g,o,D⟩) n c):=by rw [hA3,Qab _ (by decide)]; exact g2_110
 have g3_111:A3.tmps[111]?=I (O (I ⟨g,o+3,D⟩)):=by rw [hA3]; exact Qak _ (by rw [f2.size,hb]; decide)
 clear hA3
 clear g3_110
 show wpAnyH U .any ops (NoPanic Q) _ (15+1) #[true,true,true,false,false,false,false,false,false,false,false,false,false,false,false,false,false,false,false] _ _
 refine Qao h3' rfl rfl hns (tk1 t3) (tk2 t3) (v:=(J .u8 (x:Int))) (fun _ _ _ _ h=>h) (fun W hW=>by
  have q:=Qaf g3_111
  have q2:W.cell? ⟨g,o+3,D⟩=I (J .u8 (x:Int)):=by rw [hW.cell ⟨g,o+3,D⟩ zg hgY]; exact cx
  unfold execOp
  simp only [q]
  simp [go_sem,q2]) hdr ?_
 obtain ⟨A4,hA4⟩:∃ Z,Z=A3.put (I 112) (J .u8 (x:Int)):=⟨_,rfl⟩
 rw [← hA4]
 have f4:Fr [109,110,111,112,113,114,115,116,117,118,119,120,121,122,123,124,125,126] b A4:=by rw [hA4]; exact f3.put (by decide) _
 have g4_109:A4.tmps[109]?=I (J E A):=by rw [hA4,Qab _ (by decide)]; exact g3_109
 have g4_111:A4.tmps[111]?=I (O (I ⟨g,o+3,D⟩)):=by rw [hA4,Qab _ (by decide)]; exact g3_111
 have g4_112:A4.tmps[112]?=I (J .u8 (x:Int)):=by rw [hA4]; exact Qak _ (by rw [f3.size,hb]; decide)
 clear hA4
 clear g4_111
 show wpAnyH U .any ops (NoPanic Q) _ (14+1) #[true,true,true,true,false,false,false,false,false,false,false,false,false,false,false,false,false,false,false] _ _
 refine Qao h4' rfl rfl hns (tk1 t4) (tk2 t4) (v:=(J E (x:Int))) (fun _ _ _ _ h=>h) (fun W _=>by
  have q:=Qaf g4_112
  unfold execOp
  simp only [q]
  simp [go_sem]
  rw [IntKind.wrap_i64]
  omega) hdr ?_
 obtain ⟨A5,hA5⟩:∃ Z,Z=A4.put (I 113) (J E (x:Int)):=⟨_,rfl⟩
 rw [← hA5]
 have f5:Fr [109,110,111,112,113,114,115,116,117,118,119,120,121,122,123,124,125,126] b A5:=by rw [hA5]; exact f4.put (by decide) _
 have g5_109:A5.tmps[109]?=I (J E A):=by rw [hA5,Qab _ (by decide)]; exact g4_109
 have g5_112:A5.tmps[112]?=I (J .u8 (x:Int)):=by rw [hA5,Qab _ (by decide)]; exact g4_112
 have g5_113:A5.tmps[113]?=I (J E (x:Int)):=by rw [hA5]; exact Qak _ (by rw [f4.size,hb]; decide)
 clear hA5
 clear g5_112
 show wpAnyH U .any ops (NoPanic Q) _ (13+1) #[true,true,true,true,true,false,false,false,false,false,false,false,false,false,false,false,false,false,false] _ _
 refine Qao h5' rfl rfl hns (tk1 t5) (tk2 t5) (v:=(J E (256 * (x:Int)))) (fun _ _ _ _ h=>h) (fun W _=>by
  have q0:=Qaf g5_113
  unfold execOp
  simp only [q0]
  simp [go_sem]
  rw [IntKind.wrap_i64] <;> omega) hdr ?_
 obtain ⟨A6,hA6⟩:∃ Z,Z=A5.put (I 114) (J E (256 * (x:Int))):=⟨_,rfl⟩
 rw [← hA6]
 have f6:Fr [109,110,111,112,113,114,115,116,117,118,119,120,121,122,123,124,125,126] b A6:=by rw [hA6]; exact f5.put (by decide) _
 have g6_109:A6.tmps[109]?=I (J E A):=by rw [hA6,Qab _ (by decide)]; exact g5_109
 have g6_113:A6.tmps[113]?=I (J E (x:Int)):=by rw [hA6,Qab _ (by decide)]; exact g5_113
 have g6_114:A6.tmps[114]?=I (J E (256 * (x:Int))):=by rw [hA6]; exact Qak _ (by rw [f5.size,hb]; decide)
 clear hA6
 clear g6_113
 show wpAnyH U .any ops (NoPanic Q) _ (12+1) #[true,true,true,true,true,true,false,false,false,false,false,false,false,false,false,false,false,false,false] _ _
 refine Qao h6' rfl rfl hns (tk1 t6) (tk2 t6) (v:=(T (I ⟨g,o,D⟩) n c)) (fun _ _ _ _ h=>h) (fun W _=>Qdg _ W _ _ _ rfl (Qaf (f6.slot (by decide) s7))) hdr ?_
 obtain ⟨A7,hA7⟩:∃ Z,Z=A6.put (I 115) (T (I ⟨g,o,D⟩) n c):=⟨_,rfl⟩
 rw [← hA7]
 have f7:Fr [109,110,111,112,113,114,115,116,117,118,119,120,121,122,123,124,125,126] b A7:=by rw [hA7]; exact f6.put (by decide) _
 have g7_109:A7.tmps[109]?=I (J E A):=by rw [hA7,Qab _ (by decide)]; exact g6_109
 have g7_114:A7.tmps[114]?=I (J E (256 * (x:Int))):=by rw [hA7,Qab _ (by decide)]; exact g6_114
 have g7_115:A7.tmps[115]?=I (T (I ⟨g,o,D⟩) n c):=by rw [hA7]; exact Qak _ (by rw [f6.size,hb]; decide)
 clear hA7
 show wpAnyH U .any ops (NoPanic Q) _ (11+1) #[true,true,true,true,true,true,true,false,false,false,false,false,false,false,false,false,false,false,false] _ _
 refine Qao h7' rfl rfl hns (tk1 t7) (tk2 t7) (v:=(O (I ⟨g,o+4,D⟩))) (fun _ _ _ _ h=>h) (fun W _=>by
  have q:=Qaf g7_115
  unfold execOp
  simp only [q]
  simp [go_sem,hn4]) hdr ?_
 obtain ⟨A8,hA8⟩:∃ Z,Z=A7.put (I 116) (O (I ⟨g,o+4,D⟩)):=⟨_,rfl⟩
 rw [← hA8]
 have f8:Fr [109,110,111,112,113,114,115,116,117,118,119,120,121,122,123,124,125,126] b A8:=by rw [hA8]; exact f7.put (by decide) _
 have g8_109:A8.tmps[109]?=I (J E A):=by rw [hA8,Qab _ (by decide)]; exact g7_109
 have g8_114:A8.tmps[114]?=I (J E (256 * (x:Int))):=by rw [hA8,Qab _ (by decide)]; exact g7_114
 have g8_115:A8.tmps[115]?=I (T (I ⟨g,o,D⟩) n c):=by rw [hA8,Qab _ (by decide)]; exact g7_115
 have g8_116:A8.tmps[116]?=I (O (I ⟨g,o+4,D⟩)):=by rw [hA8]; exact Qak _ (by rw [f7.size,hb]; decide)
 clear hA8
 clear g8_115
 show wpAnyH U .any ops (NoPanic Q) _ (10+1) #[true,true,true,true,true,true,true,true,false,false,false,false,false,false,false,false,false,false,false] _ _
 refine Qao h8' rfl rfl hns (tk1 t8) (tk2 t8) (v:=(J .u8 (y:Int))) (fun _ _ _ _ h=>h) (fun W hW=>by
  have q:=Qaf g8_116
  have q2:W.cell? ⟨g,o+4,D⟩=I (J .u8 (y:Int)):=by rw [hW.cell ⟨g,o+4,D⟩ zg hgY]; exact cy
  unfold execOp
  simp only [q]
  simp [go_sem,q2]) hdr ?_
 obtain ⟨A9,hA9⟩:∃ Z,Z=A8.put (I 117) (J .u8 (y:Int)):=⟨_,rfl⟩
 rw [← hA9]
 have f9:Fr [109,110,111,112,113,114,115,116,117,118,119,120,121,122,123,124,125,126] b A9:=by rw [hA9]; exact f8.put (by decide) _
 have g9_109:A9.tmps[109]?=I (J E A):=by rw [hA9,Qab _ (by decide)]; exact g8_109
 have g9_114:A9.tmps[114]?=I (J E (256 * (x:Int))):=by rw [hA9,Qab _ (by decide)]; exact g8_114
 have g9_116:A9.tmps[116]?=I (O (I ⟨g,o+4,D⟩)):=by rw [hA9,Qab _ (by decide)]; exact g8_116
 have g9_117:A9.tmps[117]?=I (J .u8 (y:Int)):=by rw [hA9]; exact Qak _ (by rw [f8.size,hb]; decide)
 clear hA9
 clear g9_116
 show wpAnyH U .any ops (NoPanic Q) _ (9+1) #[true,true,true,true,true,true,true,true,true,false,false,false,false,false,false,false,false,false,false] _ _
 refine Qao h9' rfl rfl hns (tk1 t9) (tk2 t9) (v:=(J E (y:Int))) (fun _ _ _ _ h=>h) (fun W _=>by
  have q:=Qaf g9_117
  unfold execOp
  simp only [q]
  simp [go_sem]
  rw [IntKind.wrap_i64]
  omega) hdr ?_
 obtain ⟨A10,hA10⟩:∃ Z,Z=A9.put (I 118) (J E (y:Int)):=⟨_,rfl⟩
 rw [← hA10]
 have f10:Fr [109,110,111,112,113,114,115,116,117,118,119,120,121,122,123,124,125,126] b A10:=by rw [hA10]; exact f9.put (by decide) _
 have g10_109:A10.tmps[109]?=I (J E A):=by rw [hA10,Qab _ (by decide)]; exact g9_109
 have g10_114:A10.tmps[114]?=I (J E (256 * (x:Int))):=by rw [hA10,Qab _ (by decide)]; exact g9_114
 have g10_117:A10.tmps[117]?=I (J .u8 (y:Int)):=by rw [hA10,Qab _ (by decide)]; exact g9_117
 have g10_118:A10.tmps[118]?=I (J E (y:Int)):=by rw [hA10]; exact Qak _ (by rw [f9.size,hb]; decide)
 clear hA10
 clear g10_117
 show wpAnyH U .any ops (NoPanic Q) _ (8+1) #[true,true,true,true,true,true,true,true,true,true,false,false,false,false,false,false,false,false,false] _ _
 refine Qao h10' rfl rfl hns (tk1 t10) (tk2 t10) (v:=(J E ((hh:Nat):Int))) (fun _ _ _ _ h=>h) (fun W _=>by
  have q0:=Qaf g10_114
  have q1:=Qaf g10_118
  unfold execOp
  simp only [q0,q1]
  simp [go_sem]
  rw [IntKind.wrap_i64] <;> omega) hdr ?_
 obtain ⟨A11,hA11⟩:∃ Z,Z=A10.put (I 119) (J E ((hh:Nat):Int)):=⟨_,rfl⟩
 rw [← hA11]
 have f11:Fr [109,110,111,112,113,114,115,116,117,118,119,120,121,122,123,124,125,126] b A11:=by rw [hA11]; exact f10.put (by decide) _
 have g11_109:A11.tmps[109]?=I (J E A):=by rw [hA11,Qab _ (by decide)]; exact g10_109
 have g11_114:A11.tmps[114]?=I (J E (256 * (x:Int))):=by rw [hA11,Qab _ (by decide)]; exact g10_114
 have g11_118:A11.tmps[118]?=I (J E (y:Int)):=by rw [hA11,Qab _ (by decide)]; exact g10_118
 have g11_119:A11.tmps[119]?=I (J E ((hh:Nat):Int)):=by rw [hA11]; exact Qak _ (by rw [f10.size,hb]; decide)
 clear hA11
 clear g11_114 g11_118
 show wpAnyH U .any ops (NoPanic Q) _ (7+1) #[true,true,true,true,true,true,true,true,true,true,true,false,false,false,false,false,false,false,false] _ _
 refine Qao h11' rfl rfl hns (tk1 t11) (tk2 t11) (v:=(T (I ⟨g,o,D⟩) n c)) (fun _ _ _ _ h=>h) (fun W _=>Qdg _ W _ _ _ rfl (Qaf (f11.slot (by decide) s7))) hdr ?_
 obtain ⟨A12,hA12⟩:∃ Z,Z=A11.put (I 120) (T (I ⟨g,o,D⟩) n c):=⟨_,rfl⟩
 rw [← hA12]
 have f12:Fr [109,110,111,112,113,114,115,116,117,118,119,120,121,122,123,124,125,126] b A12:=by rw [hA12]; exact f11.put (by decide) _
 have g12_109:A12.tmps[109]?=I (J E A):=by rw [hA12,Qab _ (by decide)]; exact g11_109
 have g12_119:A12.tmps[119]?=I (J E ((hh:Nat):Int)):=by rw [hA12,Qab _ (by decide)]; exact g11_119
 have g12_120:A12.tmps[120]?=I (T (I ⟨g,o,D⟩) n c):=by rw [hA12]; exact Qak _ (by rw [f11.size,hb]; decide)
 clear hA12
 show wpAnyH U .any ops (NoPanic Q) _ (6+1) #[true,true,true,true,true,true,true,true,true,true,true,true,false,false,false,false,false,false,false] _ _
 refine Qao h12' rfl rfl hns (tk1 t12) (tk2 t12) (v:=(T (I ⟨g,o+5,D⟩) (n - 5) (c - 5))) (fun _ _ _ _ h=>h) (fun W _=>by
  have q:=Qaf g12_120
  unfold execOp
  simp only [q]
  simp [go_sem,hc5,hn5]) hdr ?_
 obtain ⟨A13,hA13⟩:∃ Z,Z=A12.put (I 121) (T (I ⟨g,o+5,D⟩) (n - 5) (c - 5)):=⟨_,rfl⟩
 rw [← hA13]
 have f13:Fr [109,110,111,112,113,114,115,116,117,118,119,120,121,122,123,124,125,126] b A13:=by rw [hA13]; exact f12.put (by decide) _
 have g13_109:A13.tmps[109]?=I (J E A):=by rw [hA13,Qab _ (by decide)]; exact g12_109
 have g13_119:A13.tmps[119]?=I (J E ((hh:Nat):Int)):=by rw [hA13,Qab _ (by decide)]; exact g12_119
 have g13_120:A13.tmps[120]?=I (T (I ⟨g,o,D⟩) n c):=by rw [hA13,Qab _ (by decide)]; exact g12_120
 have g13_121:A13.tmps[121]?=I (T (I ⟨g,o+5,D⟩) (n - 5) (c - 5)):=by rw [hA13]; exact Qak _ (by rw [f12.size,hb]; decide)
 clear hA13
 clear g13_120
 show wpAnyH U .any ops (NoPanic Q) _ (5+1) #[true,true,true,true,true,true,true,true,true,true,true,true,true,false,false,false,false,false,false] _ _
 refine Qao h15' rfl rfl hns (tk1 t15) (tk2 t15) (v:=(Qga cc)) (fun _ _ _ _ h=>h) (fun W hW=>Qiw (g:=X) (Qaf (f13.slot (by decide) s8)) (Qai (by rw [hW.block _ zX hXY]; exact bX))) hdr ?_
 obtain ⟨A14,hA14⟩:∃ Z,Z=A13.put (I 124) (Qga cc):=⟨_,rfl⟩
 rw [← hA14]
 have f14:Fr [109,110,111,112,113,114,115,116,117,118,119,120,121,122,123,124,125,126] b A14:=by rw [hA14]; exact f13.put (by decide) _
 have g14_109:A14.tmps[109]?=I (J E A):=by rw [hA14,Qab _ (by decide)]; exact g13_109
 have g14_119:A14.tmps[119]?=I (J E ((hh:Nat):Int)):=by rw [hA14,Qab _ (by decide)]; exact g13_119
 have g14_121:A14.tmps[121]?=I (T (I ⟨g,o+5,D⟩) (n - 5) (c - 5)):=by rw [hA14,Qab _ (by decide)]; exact g13_121
 have g14_124:A14.tmps[124]?=I (Qga cc):=by rw [hA14]; exact Qak _ (by rw [f13.size,hb]; decide)
 clear hA14
 show wpAnyH U .any ops (NoPanic Q) _ (4+1) #[true,true,true,true,true,true,true,true,true,true,true,true,true,false,false,true,false,false,false] _ _
 refine wpAnyH_all r13 (by simp) fun i hi=>?_
 obtain rfl:i=13:=by simpa using hi
 refine Qbo h13' rfl (Qvm (.tmp 121) _ (Qaf g14_121) ((k13 _ hdr).mono ?_))
 rintro e w8 ⟨rfl,k,rfl⟩
 have hd8:Below w1.heap.size w1 (({ w1 with drawn:=w1.drawn+1 } : World).drewN k):=Qaj ((Below.refl _ w1).drew) k
 have hdr8:Qae (fun k=>k=Y) w1 (({ w1 with drawn:=w1.drawn+1 } : World).drewN k):=Qae.of_below hd8 _
 refine ⟨_,rfl,hdr8,?_⟩
 show wpAnyH U .any ops (NoPanic Q) _ 4 #[true,true,true,true,true,true,true,true,true,true,true,true,true,true,false,true,false,false,false] (A14.put (I 122) (J E (ii:Int))) _
 obtain ⟨A15,hA15⟩:∃ Z,Z=A14.put (I 122) (J E (ii:Int)):=⟨_,rfl⟩
 rw [← hA15]
 have f15:Fr [109,110,111,112,113,114,115,116,117,118,119,120,121,122,123,124,125,126] b A15:=by rw [hA15]; exact f14.put (by decide) _
 have g15_109:A15.tmps[109]?=I (J E A):=by rw [hA15,Qab _ (by decide)]; exact g14_109
 have g15_119:A15.tmps[119]?=I (J E ((hh:Nat):Int)):=by rw [hA15,Qab _ (by decide)]; exact g14_119
 have g15_121:A15.tmps[121]?=I (T (I ⟨g,o+5,D⟩) (n - 5) (c - 5)):=by rw [hA15,Qab _ (by decide)]; exact g14_121
 have g15_124:A15.tmps[124]?=I (Qga cc):=by rw [hA15,Qab _ (by decide)]; exact g14_124
 have g15_122:A15.tmps[122]?=I (J E (ii:Int)):=by rw [hA15]; exact Qak _ (by rw [f14.size,hb]; decide)
 clear hA15
 clear g15_121
 show wpAnyH U .any ops (NoPanic Q) _ (3+1) #[true,true,true,true,true,true,true,true,true,true,true,true,true,true,false,true,false,false,false] _ _
 refine Qao h14' rfl rfl hns (tk1 t14) (tk2 t14) (v:=(J .u32 (ii:Int))) (fun _ _ _ _ h=>h) (fun W _=>by
  have q:=Qaf g15_122
  have i0:(0:Int)≤(ii:Int):=Int.natCast_nonneg _
  have i1:(ii:Int) < 4294967296:=by omega
  unfold execOp
  simp only [q]
  simp [go_sem]
  rw [IntKind.wrap_u32]
  omega) hdr8 ?_
 obtain ⟨A16,hA16⟩:∃ Z,Z=A15.put (I 123) (J .u32 (ii:Int)):=⟨_,rfl⟩
 rw [← hA16]
 have f16:Fr [109,110,111,112,113,114,115,116,117,118,119,120,121,122,123,124,125,126] b A16:=by rw [hA16]; exact f15.put (by decide) _
 have g16_109:A16.tmps[109]?=I (J E A):=by rw [hA16,Qab _ (by decide)]; exact g15_109
 have g16_119:A16.tmps[119]?=I (J E ((hh:Nat):Int)):=by rw [hA16,Qab _ (by decide)]; exact g15_119
 have g16_124:A16.tmps[124]?=I (Qga cc):=by rw [hA16,Qab _ (by decide)]; exact g15_124
 have g16_122:A16.tmps[122]?=I (J E (ii:Int)):=by rw [hA16,Qab _ (by decide)]; exact g15_122
 have g16_123:A16.tmps[123]?=I (J .u32 (ii:Int)):=by rw [hA16]; exact Qak _ (by rw [f15.size,hb]; decide)
 clear hA16
 show wpAnyH U .any ops (NoPanic Q) _ (2+1) #[true,true,true,true,true,true,true,true,true,true,true,true,true,true,true,true,false,false,false] _ _
 refine Qao h16' rfl rfl hns (tk1 t16) (tk2 t16) (v:=(.agg (Qce A hh ii cc))) (fun _ _ _ _ h=>h) (fun W _=>Qhd (Qaf g16_109) (Qaf g16_119) (Qaf g16_123) (Qaf g16_124)) hdr8 ?_
 obtain ⟨A17,hA17⟩:∃ Z,Z=A16.put (I 125) (.agg (Qce A hh ii cc)):=⟨_,rfl⟩
 rw [← hA17]
 have f17:Fr [109,110,111,112,113,114,115,116,117,118,119,120,121,122,123,124,125,126] b A17:=by rw [hA17]; exact f16.put (by decide) _
 have g17_109:A17.tmps[109]?=I (J E A):=by rw [hA17,Qab _ (by decide)]; exact g16_109
 have g17_119:A17.tmps[119]?=I (J E ((hh:Nat):Int)):=by rw [hA17,Qab _ (by decide)]; exact g16_119
 have g17_124:A17.tmps[124]?=I (Qga cc):=by rw [hA17,Qab _ (by decide)]; exact g16_124
 have g17_122:A17.tmps[122]?=I (J E (ii:Int)):=by rw [hA17,Qab _ (by decide)]; exact g16_122
 have g17_123:A17.tmps[123]?=I (J .u32 (ii:Int)):=by rw [hA17,Qab _ (by decide)]; exact g16_123
 have g17_125:A17.tmps[125]?=I (.agg (Qce A hh ii cc)):=by rw [hA17]; exact Qak _ (by rw [f16.size,hb]; decide)
 clear hA17
 clear g17_109 g17_119 g17_124 g17_122 g17_123
 show wpAnyH U .any ops (NoPanic Q) _ (1+1) #[true,true,true,true,true,true,true,true,true,true,true,true,true,true,true,true,true,false,false] _ _
 refine Qao h17' rfl rfl hns (tk1 t17) (tk2 t17) (v:=(O (I ⟨Y,1,D⟩))) (fun _ _ _ _ h=>h) (fun W _=>by
  have q:=Qaf (f17.slot (by decide) s6)
  unfold execOp
  simp only [q]
  simp [go_sem]) hdr8 ?_
 obtain ⟨A18,hA18⟩:∃ Z,Z=A17.put (I 126) (O (I ⟨Y,1,D⟩)):=⟨_,rfl⟩
 rw [← hA18]
 have f18:Fr [109,110,111,112,113,114,115,116,117,118,119,120,121,122,123,124,125,126] b A18:=by rw [hA18]; exact f17.put (by decide) _
 have g18_125:A18.tmps[125]?=I (.agg (Qce A hh ii cc)):=by rw [hA18,Qab _ (by decide)]; exact g17_125
 have g18_126:A18.tmps[126]?=I (O (I ⟨Y,1,D⟩)):=by rw [hA18]; exact Qak _ (by rw [f17.size,hb]; decide)
 clear hA18
 obtain ⟨W9,hst,b9,_,z9,k9⟩:=Qhz (w:=({ w1 with drawn:=w1.drawn+1 } : World).drewN k) (Y:=Y) (k:=1) (OC.made A hh ii cc) (by rw [hd8.block _ (Array.getElem?_eq_some_iff.1 bY).1]; exact bY)
 show wpAnyH U .any ops (NoPanic Q) _ (0+1) #[true,true,true,true,true,true,true,true,true,true,true,true,true,true,true,true,true,true,false] _ _
 refine wpAnyH_all r18 (by simp) fun i hi=>?_
 obtain rfl:i=18:=by simpa using hi
 refine Qbo h18' rfl ?_
 unfold Oper.wp execOp
 simp only [Qaf g18_126,Qaf g18_125,Sem.run_bind,hst,Result.andThen_ok,Sem.run_pure]
 refine ⟨hdr8.trans k9 (fun x _ e=>e),?_⟩
 show wpAnyH U .any ops (NoPanic Q) _ 0 #[true,true,true,true,true,true,true,true,true,true,true,true,true,true,true,true,true,true,true] A18 _
 exact wpAnyH_done rE (NoPanic.normal (fin _ _ W9 f18 hd8 k9 b9 z9)) _
end
theorem Qhf {g:Nat}{t:TypeId}{f:Nat×Nat} : ∀ (V M L R:List Value) (w:World),w.heap[g]?=I (C (L++M++R).toArray t f)→V.length=M.length→(w.setCells g L.length V).heap[g]?=I (C (L++V++R).toArray t f)
 | [],M,L,R,w,h,hl=>by
  have:M=[]:=List.length_eq_zero_iff.1 hl.symm
  subst this
  exact h
 | v :: V,[],L,R,w,h,hl=>by simp at hl
 | v :: V,m :: M,L,R,w,h,hl=>by
  rw [World.setCells]
  have h1:(w.setCell ⟨g,L.length,D⟩ v).heap[g]?=I (C ((L++[v])++M++R).toArray t f):=by
   have h2:(w.setCell ⟨g,L.length,D⟩ v).heap[g]?=I (C ((L++m :: M++R).toArray.setIfInBounds L.length v) t f):=by
    unfold World.setCell
    simp only [Array.getElem?_modify,if_true,h,Option.map_some]
    rfl
   rw [h2]
   congr 2
   simp
  have:=Qhf V M (L++[v]) R _ h1 (by simpa using hl)
  rw [List.length_append] at this
  simpa using this
theorem Qn2 {g:Nat} : ∀ (vs:List Value) (o:Nat) (w:World),(w.setCells g o vs).heap.size=w.heap.size
 | [],_,_=>rfl
 | v :: r,o,w=>by rw [World.setCells,Qn2 r]; simp
def upL (v:Value):List Value:=[J E 2,J E 0,J E 0,J .u32 0,H false,J E 0,H false,H false,J E 0,H false,H false,H false,J E 0,v]
def Jbk (u:Value):List Value:=[u,J E 0,J E 0,T D 0 0]
theorem Qlx (v u:Value)(A:Array Value):updMsg 2 (Qct v A u)=(upL v++A.toList++Jbk u).toArray:=by
 apply Array.ext'
 simp [updMsg,Qct,upL,Jbk,zO12]
def upH:List Value:=[J E 2,J E 0,J E 0,J .u32 0,H false,J E 0,H false,H false,J E 0,H false,H false,H false,J E 0]
def upT:List Value:=[T D 0 0,J E 0,J E 0,T D 0 0]
def upZ:List Value:=[J E 0,J E 0,T D 0 0]
theorem Qj8 {w:World}{Y:Nat}{v u:Value} (h:w.heap[Y]?=I (C (Qbt 2 0 0 (T D 0 0)) 40 (0,0))) :
  ((w.setCell ⟨Y,13,D⟩ v).setCell ⟨Y,21,D⟩ u).heap[Y]?=I (C (updMsg 2 (Qct v zA7 u)) 40 (0,0))∧Qae (fun x=>x=Y) w ((w.setCell ⟨Y,13,D⟩ v).setCell ⟨Y,21,D⟩ u)∧((w.setCell ⟨Y,13,D⟩ v).setCell ⟨Y,21,D⟩ u).heap.size=w.heap.size:=by
 have h0:w.heap[Y]?=I (C (upH++[Value.slice D 0 0]++(zA7.toList++upT)).toArray 40 (0,0)):=h
 have h1:=Qhf (g:=Y) (t:=40) (f:=(0,0)) [v] [T D 0 0] upH (zA7.toList++upT) w h0 rfl
 have h1':(w.setCell ⟨Y,13,D⟩ v).heap[Y]?=I (C (upL v++zA7.toList++[Value.slice D 0 0]++upZ).toArray 40 (0,0)):=h1
 have h2:=Qhf (g:=Y) (t:=40) (f:=(0,0)) [u] [T D 0 0] (upL v++zA7.toList) upZ _ h1' rfl
 refine ⟨?_,?_,by simp⟩
 ·have h3:((w.setCell ⟨Y,13,D⟩ v).setCell ⟨Y,21,D⟩ u).heap[Y]?=I (C (upL v++zA7.toList++[u]++upZ).toArray 40 (0,0)):=h2
  rw [Qlx,h3]
  simp [Jbk,upZ]
 ·exact ((Qae.refl (fun x=>x=Y) w).setCells Y 13 [v] (.inl rfl)).setCells Y 21 [u] (.inl rfl)
theorem Qn3 {w:World}{Y:Nat}{v u:Value}{A:Array Value} (hA:A.size=7) (hA1:A.all (·.oneCell')=true) (h:w.heap[Y]?=I (C (updMsg 2 (Qct v zA7 u)) 40 (0,0))) :
  ∃ W8,(Instr.storeAt 34 (O (I ⟨Y,14,D⟩)) (.agg A)).run U w=.ok () W8∧W8.heap[Y]?=I (C (updMsg 2 (Qct v A u)) 40 (0,0))∧W8.heap.size=w.heap.size∧Qae (fun x=>x=Y) w W8:=by
 have ht:w.there Y 14 A.size:=fun j hj=>by
  rw [hA] at hj
  refine ⟨?_,by simp [World.frozen?,h]⟩
  have:14+j < (updMsg 2 (Qct v zA7 u)).size:=by rw [Qlx]; simp [upL,Jbk,zA7]; omega
  simp only [World.cell?,h]
  rw [Array.getElem?_eq_getElem this]
  rfl
 refine ⟨w.setCells Y 14 A.toList,run_storeAt_mid (P:=U) w Y 14 34 A ht (by rw [infoA,hA]) hA1,?_,Qn2 _ _ _,(Qae.refl _ _).setCells Y 14 _ (.inl rfl)⟩
 rw [Qlx] at h ⊢
 exact Qhf A.toList zA7.toList (upL v) (Jbk u) w h (by simp [hA,zA7])
theorem Qrp (g o n cap:Nat)(bs:List Nat)(w:World)(hn:bs.length=n)(hl:n≤5000)(hcap:n≤cap)(h:BRd w (I ⟨g,o,D⟩) bs) :
  Calls U 26 #[T (I ⟨g,o,D⟩) n cap] w fun e w'=>(∃ a c,e=.returned (.tuple #[T a ((Qda bs).getD []).length c,H (Qda bs).isSome])∧w'.ownsRow w.heap.size 94 2 (T a ((Qda bs).getD []).length c) ((Qda bs).getD []).length (pcells ((Qda bs).getD [])))∧Below w.heap.size w w':=by
 have K:=Qq6 g o n cap (fun j=>bs.getD j 0) w (by omega) hcap (fun j _=>Qau h.2 j) (fun j hj=>by
  obtain ⟨g',o',e9,hc⟩:=h.1.2 (by omega)
  cases e9
  exact hc j (by omega))
 have e:Qch (fun j=>bs.getD j 0) n 0 []=Qda bs:=by unfold Qda; rw [hn]
 rw [e] at K
 refine K.mono ?_
 rintro e w' ⟨hd,hb⟩
 refine ⟨?_,hb⟩
 cases hp:Qda bs with
 | none =>
  rw [hp] at hd
  exact ⟨D,0,hd,Qbm _ _ _ _⟩
 | some ps =>
  rw [hp] at hd
  obtain ⟨v,he,ho⟩:=hd
  obtain ⟨a,c,rfl⟩:=Qcd ho
  exact ⟨a,c,he,ho⟩
theorem Jcb {l:List Nat}(h:2≤l.length):l.take 2=[l.getD 0 0,l.getD 1 0]:=by
 match l,h with
 | x :: y :: r,_=>simp
theorem Qph {l:List Nat}(h:2≤l.length):Qcn (l.take 2)=256 * l.getD 0 0+l.getD 1 0:=by
 rw [Jcb h]
 simp [Qcn]
 omega
theorem Qgg (l:List Nat)(k i:Nat):(l.drop k).getD i 0=l.getD (k+i) 0:=by
 simp [List.getD_eq_getElem?_getD,List.getElem?_drop]
theorem Qud {B:List Nat}(hB:4≤B.length)(h:B.length < 256 * B.getD 0 0+B.getD 1 0+4):upR B=.inl (3,1,[]):=by
 unfold upR
 by_cases h1:B.length < 2+(256 * B.getD 0 0+B.getD 1 0)
 ·rw [Qmi (k:=2) (by omega) (by rw [Qph (by omega)]; exact h1)]
 ·rw [Qgl (k:=2) (by omega) (by rw [Qph (by omega)]; exact h1)]
  simp only
  rw [Qph (by omega),Qlj (by rw [List.length_drop]; omega)]
theorem Qzt {B:List Nat}{G A:Nat} (hG:G=256 * B.getD 0 0+B.getD 1 0) (hA:A=256 * B.getD (2+G) 0+B.getD (3+G) 0) (hB:G+4≤B.length) :
  upR B=if B.length < G+4+A then .inl (3,1,[]) else match Qda ((B.drop 2).take G),Qda (B.drop (G+4+A)) with
   | some P,I N=>if N=[]∧(B.drop (4+G)).take A=[] then .inr (P,[],D) else match Qbv ((B.drop (4+G)).take A) with
    | .inl (_,s,d)=>.inl (3,s,d)
    | .inr b=>.inr (P,N,if N=[] then D else I b)
   | _,_=>.inl (3,10,[]):=by
 have hq:(B.drop (2+G)).length=B.length - (2+G):=List.length_drop
 have hA2:Qcn ((B.drop (2+G)).take 2)=A:=by
  rw [Qph (by omega),Qgg,Qgg,hA,show 2+G+1=3+G by omega,Nat.add_zero]
 unfold upR
 rw [Qgl (k:=2) (by omega) (by rw [Qph (by omega),← hG]; omega)]
 simp only
 rw [Qph (by omega),← hG]
 by_cases h1:B.length < G+4+A
 ·rw [if_pos h1,Qmi (k:=2) (by omega) (by rw [hA2]; omega)]
 ·rw [if_neg h1,Qgl (k:=2) (by omega) (by rw [hA2]; omega),hA2]
  simp only [List.drop_drop]
  rw [show 2+G+(2+A)=G+4+A by omega,show 2+G+2=4+G by omega]
  all_goals (cases Qda ((B.drop 2).take G) <;> cases Qda (B.drop (G+4+A)) <;> rfl)
