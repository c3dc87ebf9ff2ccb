import Derived.Test.YtdojlejehjbliaaGreatDoorPA8
namespace Go.Proofs.YtdojlejehjbliaaGreatDoor
set_option maxHeartbeats 4000000
open _root_.Option renaming some → I,none → U
open _root_.Go.Value renaming slice → J,int → V,pointer → R
open _root_.Go.IntKind renaming i64 → E
open _root_.Go.Proofs.Tryz renaming prog → D
open _root_.List renaming setIfInBounds_toArray → T,length_drop → M
open _root_.Array renaming getElem?_eq_some_iff → L
open Go.RowKit
set_option maxRecDepth 100000
theorem Qlb {w:World}{Y:Nat}{k:Int}{c s:Int}{a:Option Addr}{n cap:Nat} (h:w.heap[Y]?=I (.cells (Qbt k 0 0 (J U 0 0)) 40 (0,0))) :
  ∃ W8,(Instr.storeAt 38 (R (I ⟨Y,22,U⟩)) (.agg #[V E c,V E s,J a n cap])).run D w=.ok () W8∧W8.heap[Y]?=I (.cells (Qbt k c s (J a n cap)) 40 (0,0))∧(∀ j,j≠Y→W8.heap[j]?=w.heap[j]?)∧W8.heap.size=w.heap.size∧Qae (fun x=>x=Y) w W8:=by
 have ht:w.there Y 22 3:=fun j hj=>by
  refine ⟨?_,by simp [World.frozen?,h]⟩
  have:22+j < (Qbt k 0 0 (J U 0 0)).size:=by show 22+j < 25; omega
  simp only [World.cell?,h]
  rw [Array.getElem?_eq_getElem this]
  rfl
 have hk:Qae (fun x=>x=Y) w (w.setCells Y 22 [V E c,V E s,J a n cap]):=(Qae.refl _ _).setCells Y 22 _ (.inl rfl)
 have hsz:∀ (vs:List Value) (o:Nat) (w:World),(w.setCells Y o vs).heap.size=w.heap.size:=by
  intro vs
  induction vs with
  | nil=>intro o w; rfl
  | cons v r ih=>intro o w; rw [World.setCells,ih]; simp
 refine ⟨w.setCells Y 22 [V E c,V E s,J a n cap],run_storeAt_mid (P:=D) w Y 22 38 #[V E c,V E s,J a n cap] ht infoN (by simp [Value.oneCell']),?_,fun j hj=>?_,hsz _ _ _,hk⟩
 ·obtain ⟨C',h2,h3⟩:=Qfr [V E c,V E s,J a n cap] 22 w _ h
  have hin:=World.rangeAt_setCells_same w Y 22 [V E c,V E s,J a n cap] ht
  have hC:∀ j,C'[j]?=(w.setCells Y 22 [V E c,V E s,J a n cap]).cell? ⟨Y,j,U⟩:=fun j=>by simp [World.cell?,h2]
  have h0:∀ j,(Qbt k 0 0 (J U 0 0))[j]?=w.cell? ⟨Y,j,U⟩:=fun j=>by simp [World.cell?,h]
  have:C'=Qbt k c s (J a n cap):=by
   apply Array.ext_getElem?
   intro j
   rw [hC]
   by_cases hj:j < 22
   ·rw [World.cell?_setCells_out Y _ 22 w ⟨Y,j,U⟩ (fun _ _=>.inl hj),← h0]
    rcases (by omega:j=0∨j=1∨j=2∨j=3∨j=4∨j=5∨j=6∨j=7∨j=8∨j=9∨j=10∨j=11∨j=12∨j=13∨j=14∨j=15∨j=16∨j=17∨j=18∨j=19∨j=20∨j=21) with rfl | rfl | rfl | rfl | rfl | rfl | rfl | rfl | rfl | rfl | rfl | rfl | rfl | rfl | rfl | rfl | rfl | rfl | rfl | rfl | rfl | rfl <;> rfl
   ·by_cases h25:j < 25
    ·rcases (by omega:j=22∨j=23∨j=24) with rfl | rfl | rfl
     ·exact hin 0 _ rfl
     ·exact hin 1 _ rfl
     ·exact hin 2 _ rfl
    ·rw [World.cell?_setCells_out Y _ 22 w ⟨Y,j,U⟩ (fun _ _=>.inr (by show 22+3≤j; omega)),← h0]
     rw [Array.getElem?_eq_none (by show 25≤j; omega),Array.getElem?_eq_none (by show 25≤j; omega)]
  rw [h2,this]
 ·by_cases hjj:j < w.heap.size
  ·exact hk.block j hjj hj
  ·rw [Array.getElem?_eq_none (by rw [hsz]; omega),Array.getElem?_eq_none (by omega)]
section
variable {a:Act}{w:World}{dst:Option Tmp}{ty:TypeId}{pos:String}{after:Array Edge}{K:Act→World→Prop}{Q:Exit→Act→World→Prop}{ρ:Operand→Value}
theorem Qq7 (x y z:Operand)(u v t:Value)(hf:ρ (.func 20)=.func (.func 20) #[] #[])(hx:ρ x=u)(hy:ρ y=v)(hz:ρ z=t) :
  (execOp ρ { dst:=dst,op:=.call { callee:=.value (.func 20),args:=#[x,y,z],argTypes:=#[3,3,22] },type:=ty,pos:=pos,after:=after,guard:=U }).run D w=.ok (.enter 20 #[u,v,t]) w:=by
 unfold execOp
 simp [resolve,invoke,hf,hx,hy,hz,go_sem]
theorem Qo5 (x y z:Operand)(u v t:Value)(hx:a.eval x=u)(hy:a.eval y=v)(hz:a.eval z=t)(h:Calls D 20 #[u,v,t] w fun e w'=>∃ r,e=.returned r∧K (a.put dst r) w') :
  Oper.wp D { dst:=dst,op:=.call { callee:=.value (.func 20),args:=#[x,y,z],argTypes:=#[3,3,22] },type:=ty,pos:=pos,after:=after,guard:=U } a w K Q:=by
 unfold Oper.wp
 rw [Qq7 (ρ:=a.eval) x y z u v t rfl hx hy hz]
 refine Calls.mono h ?_
 rintro _ w' ⟨r,rfl,hk⟩
 exact hk
end
section
variable {ops:Array Oper}{Q:Exit→Act→World→Prop}{id:Nat}
theorem Qxs (b:Act)(w1:World)(Y g o n c x y:Nat)(d:List Nat)
  (o0:opk ops 0 (I 56) (.move (.tmp 7)))
  (o1:opk ops 1 (I 57) (.indexAddr 22 (.tmp 56) (.const (V E 0))))
  (o2:opk ops 2 (I 58) (.load 5 (.tmp 57)))
  (o3:opk ops 3 (I 59) (.convert 5 3 (.tmp 58)))
  (o4:opk ops 4 (I 60) (.move (.tmp 7)))
  (o5:opk ops 5 (I 61) (.indexAddr 22 (.tmp 60) (.const (V E 1))))
  (o6:opk ops 6 (I 62) (.load 5 (.tmp 61)))
  (o7:opk ops 7 (I 63) (.convert 5 3 (.tmp 62)))
  (o8:opk ops 8 (I 64) (.move (.tmp 7)))
  (o9:opk ops 9 (I 65) (.slice 22 (.tmp 64) (I (.const (V E 2))) U U))
  (o10:opk ops 10 (I 66) (.call { callee:=.value (.func 20),args:=#[.tmp 59,.tmp 63,.tmp 65],argTypes:=#[3,3,22] }))
  (o11:opk ops 11 (I 67) (.fieldAddr 40 (.tmp 6) 3))
  (o12:opk ops 12 U (.store 38 (.tmp 67) (.tmp 66)))
  (hsz:ops.size=13) (hns:Region.noSelect ops=true)
  (t0:tk ops #[false,false,false,false,false,false,false,false,false,false,false,false,false] 0=true)
  (t1:tk ops #[true,false,false,false,false,false,false,false,false,false,false,false,false] 1=true)
  (t2:tk ops #[true,true,false,false,false,false,false,false,false,false,false,false,false] 2=true)
  (t3:tk ops #[true,true,true,false,false,false,false,false,false,false,false,false,false] 3=true)
  (t4:tk ops #[true,true,true,true,false,false,false,false,false,false,false,false,false] 4=true)
  (t5:tk ops #[true,true,true,true,true,false,false,false,false,false,false,false,false] 5=true)
  (t6:tk ops #[true,true,true,true,true,true,false,false,false,false,false,false,false] 6=true)
  (t7:tk ops #[true,true,true,true,true,true,true,false,false,false,false,false,false] 7=true)
  (t8:tk ops #[true,true,true,true,true,true,true,true,false,false,false,false,false] 8=true)
  (t9:tk ops #[true,true,true,true,true,true,true,true,true,false,false,false,false] 9=true)
  (t11:tk ops #[true,true,true,true,true,true,true,true,true,true,true,false,false] 11=true)
  (r10:Region.ready .any ops #[true,true,true,true,true,true,true,true,true,true,false,false,false]=[10]) (r12:Region.ready .any ops #[true,true,true,true,true,true,true,true,true,true,true,true,false]=[12]) (rE:Region.ready .any ops #[true,true,true,true,true,true,true,true,true,true,true,true,true]=[])
  (hb:b.tmps.size=75) (s7:b.tmps[7]?=I (J (I ⟨g,o,U⟩) n c)) (s6:b.tmps[6]?=I (R (I ⟨Y,0,U⟩)))
  (hn:2≤n) (hl:n≤5000) (hx:x < 256) (hy:y < 256) (cx:w1.cell? ⟨g,o,U⟩=I (V .u8 (x:Int))) (cy:w1.cell? ⟨g,o+1,U⟩=I (V .u8 (y:Int)))
  (hgY:g≠Y) (bY:w1.heap[Y]?=I (.cells (Qbt 3 0 0 (J U 0 0)) 40 (0,0)))
  (hd:d.length=n - 2) (hrd:∀ X,Below w1.heap.size w1 X→BRd X (if c=2 then I ⟨g,o,U⟩ else I ⟨g,o+2,U⟩) d)
  (fin:∀ a W8 W9 a9 c9,Fr [56,57,58,59,60,61,62,63,64,65,66,67] b a→Below w1.heap.size w1 W8→W8.ownsRow w1.heap.size 5 1 (J a9 (n - 2) c9) (n - 2) (Qal d)→Qae (fun k=>k=Y) W8 W9→W9.heap[Y]?=I (.cells (Qbt 3 (x:Int) (y:Int) (J a9 (n - 2) c9)) 40 (0,0))→W9.heap.size=W8.heap.size→Q .normal a W9) :
  (Code.region id ops true).wp D Q b w1:=by
 obtain ⟨a0,p0,e0,h0'⟩:=o0
 obtain ⟨a1,p1,e1,h1'⟩:=o1
 obtain ⟨a2,p2,e2,h2'⟩:=o2
 obtain ⟨a3,p3,e3,h3'⟩:=o3
 obtain ⟨a4,p4,e4,h4'⟩:=o4
 obtain ⟨a5,p5,e5,h5'⟩:=o5
 obtain ⟨a6,p6,e6,h6'⟩:=o6
 obtain ⟨a7,p7,e7,h7'⟩:=o7
 obtain ⟨a8,p8,e8,h8'⟩:=o8
 obtain ⟨a9,p9,e9,h9'⟩:=o9
 obtain ⟨a10,p10,e10,h10'⟩:=o10
 obtain ⟨a11,p11,e11,h11'⟩:=o11
 obtain ⟨a12,p12,e12,h12'⟩:=o12
 have zg:=World.block_lt_of_cell? w1 _ cx
 simp only at zg
 have hn0:¬ n=0:=by omega
 have hn1:(1:Int) < (n:Int):=by omega
 have hn2:(2:Int)≤(n:Int):=by omega
 refine wp_region_noPanic ?_
 refine wp_region_held (S:=fun W=>Qae (fun k=>k=Y) w1 W) (by kernel_rfl) ?_
 rw [hsz]
 have hdr:Qae (fun k=>k=Y) w1 { w1 with drawn:=w1.drawn+1 }:=⟨rfl,rfl,rfl,Nat.le_refl _,fun _ _ _=>rfl⟩
 have f0:Fr [56,57,58,59,60,61,62,63,64,65,66,67] b b:=Fr.refl _ _
 show wpAnyH D .any ops (NoPanic Q) _ (12+1) #[false,false,false,false,false,false,false,false,false,false,false,false,false] _ _
 refine Qao h0' rfl rfl hns (tk1 t0) (tk2 t0) (v:=(J (I ⟨g,o,U⟩) n c)) (fun _ _ _ _ h=>h) (fun W _=>Qdg _ W _ _ _ rfl (Qaf (f0.slot (by decide) s7))) hdr ?_
 obtain ⟨A1,hA1⟩:∃ Z,Z=b.put (I 56) (J (I ⟨g,o,U⟩) n c):=⟨_,rfl⟩
 rw [← hA1]
 have f1:Fr [56,57,58,59,60,61,62,63,64,65,66,67] b A1:=by rw [hA1]; exact f0.put (by decide) _
 have g1_56:A1.tmps[56]?=I (J (I ⟨g,o,U⟩) n c):=by rw [hA1]; exact Qak _ (by rw [f0.size,hb]; decide)
 clear hA1
 show wpAnyH D .any ops (NoPanic Q) _ (11+1) #[true,false,false,false,false,false,false,false,false,false,false,false,false] _ _
 refine Qao h1' rfl rfl hns (tk1 t1) (tk2 t1) (v:=(R (I ⟨g,o,U⟩))) (fun _ _ _ _ h=>h) (fun W _=>by
  have q:=Qaf g1_56
  unfold execOp
  simp only [q]
  simp [go_sem,hn0]) hdr ?_
 obtain ⟨A2,hA2⟩:∃ Z,Z=A1.put (I 57) (R (I ⟨g,o,U⟩)):=⟨_,rfl⟩
 rw [← hA2]
 have f2:Fr [56,57,58,59,60,61,62,63,64,65,66,67] b A2:=by rw [hA2]; exact f1.put (by decide) _
 have g2_57:A2.tmps[57]?=I (R (I ⟨g,o,U⟩)):=by rw [hA2]; exact Qak _ (by rw [f1.size,hb]; decide)
 clear hA2
 show wpAnyH D .any ops (NoPanic Q) _ (10+1) #[true,true,false,false,false,false,false,false,false,false,false,false,false] _ _
 refine Qao h2' rfl rfl hns (tk1 t2) (tk2 t2) (v:=(V .u8 (x:Int))) (fun _ _ _ _ h=>h) (fun W hW=>by
  have q:=Qaf g2_57
  have q2:W.cell? ⟨g,o,U⟩=I (V .u8 (x:Int)):=by rw [hW.cell ⟨g,o,U⟩ zg hgY]; exact cx
  unfold execOp
  simp only [q]
  simp [go_sem,q2]) hdr ?_
 obtain ⟨A3,hA3⟩:∃ Z,Z=A2.put (I 58) (V .u8 (x:Int)):=⟨_,rfl⟩
 rw [← hA3]
 have f3:Fr [56,57,58,59,60,61,62,63,64,65,66,67] b A3:=by rw [hA3]; exact f2.put (by decide) _
 have g3_58:A3.tmps[58]?=I (V .u8 (x:Int)):=by rw [hA3]; exact Qak _ (by rw [f2.size,hb]; decide)
 clear hA3
 show wpAnyH D .any ops (NoPanic Q) _ (9+1) #[true,true,true,false,false,false,false,false,false,false,false,false,false] _ _
 refine Qao h3' rfl rfl hns (tk1 t3) (tk2 t3) (v:=(V E (x:Int))) (fun _ _ _ _ h=>h) (fun W _=>by
  have q:=Qaf g3_58
  unfold execOp
  simp only [q]
  simp [go_sem]
  rw [IntKind.wrap_i64]
  omega) hdr ?_
 obtain ⟨A4,hA4⟩:∃ Z,Z=A3.put (I 59) (V E (x:Int)):=⟨_,rfl⟩
 rw [← hA4]
 have f4:Fr [56,57,58,59,60,61,62,63,64,65,66,67] b A4:=by rw [hA4]; exact f3.put (by decide) _
 have g4_59:A4.tmps[59]?=I (V E (x:Int)):=by rw [hA4]; exact Qak _ (by rw [f3.size,hb]; decide)
 clear hA4
 show wpAnyH D .any ops (NoPanic Q) _ (8+1) #[true,true,true,true,false,false,false,false,false,false,false,false,false] _ _
 refine Qao h4' rfl rfl hns (tk1 t4) (tk2 t4) (v:=(J (I ⟨g,o,U⟩) n c)) (fun _ _ _ _ h=>h) (fun W _=>Qdg _ W _ _ _ rfl (Qaf (f4.slot (by decide) s7))) hdr ?_
 obtain ⟨A5,hA5⟩:∃ Z,Z=A4.put (I 60) (J (I ⟨g,o,U⟩) n c):=⟨_,rfl⟩
 rw [← hA5]
 have f5:Fr [56,57,58,59,60,61,62,63,64,65,66,67] b A5:=by rw [hA5]; exact f4.put (by decide) _
 have g5_59:A5.tmps[59]?=I (V E (x:Int)):=by rw [hA5,Qab _ (by decide)]; exact g4_59
 have g5_60:A5.tmps[60]?=I (J (I ⟨g,o,U⟩) n c):=by rw [hA5]; exact Qak _ (by rw [f4.size,hb]; decide)
 clear hA5
 show wpAnyH D .any ops (NoPanic Q) _ (7+1) #[true,true,true,true,true,false,false,false,false,false,false,false,false] _ _
 refine Qao h5' rfl rfl hns (tk1 t5) (tk2 t5) (v:=(R (I ⟨g,o+1,U⟩))) (fun _ _ _ _ h=>h) (fun W _=>by
  have q:=Qaf g5_60
  unfold execOp
  simp only [q]
  simp [go_sem,hn1]) hdr ?_
 obtain ⟨A6,hA6⟩:∃ Z,Z=A5.put (I 61) (R (I ⟨g,o+1,U⟩)):=⟨_,rfl⟩
 rw [← hA6]
 have f6:Fr [56,57,58,59,60,61,62,63,64,65,66,67] b A6:=by rw [hA6]; exact f5.put (by decide) _
 have g6_59:A6.tmps[59]?=I (V E (x:Int)):=by rw [hA6,Qab _ (by decide)]; exact g5_59
 have g6_61:A6.tmps[61]?=I (R (I ⟨g,o+1,U⟩)):=by rw [hA6]; exact Qak _ (by rw [f5.size,hb]; decide)
 clear hA6
 show wpAnyH D .any ops (NoPanic Q) _ (6+1) #[true,true,true,true,true,true,false,false,false,false,false,false,false] _ _
 refine Qao h6' rfl rfl hns (tk1 t6) (tk2 t6) (v:=(V .u8 (y:Int))) (fun _ _ _ _ h=>h) (fun W hW=>by
  have q:=Qaf g6_61
  have q2:W.cell? ⟨g,o+1,U⟩=I (V .u8 (y:Int)):=by rw [hW.cell ⟨g,o+1,U⟩ zg hgY]; exact cy
  unfold execOp
  simp only [q]
  simp [go_sem,q2]) hdr ?_
 obtain ⟨A7,hA7⟩:∃ Z,Z=A6.put (I 62) (V .u8 (y:Int)):=⟨_,rfl⟩
 rw [← hA7]
 have f7:Fr [56,57,58,59,60,61,62,63,64,65,66,67] b A7:=by rw [hA7]; exact f6.put (by decide) _
 have g7_59:A7.tmps[59]?=I (V E (x:Int)):=by rw [hA7,Qab _ (by decide)]; exact g6_59
 have g7_62:A7.tmps[62]?=I (V .u8 (y:Int)):=by rw [hA7]; exact Qak _ (by rw [f6.size,hb]; decide)
 clear hA7
 show wpAnyH D .any ops (NoPanic Q) _ (5+1) #[true,true,true,true,true,true,true,false,false,false,false,false,false] _ _
 refine Qao h7' rfl rfl hns (tk1 t7) (tk2 t7) (v:=(V E (y:Int))) (fun _ _ _ _ h=>h) (fun W _=>by
  have q:=Qaf g7_62
  unfold execOp
  simp only [q]
  simp [go_sem]
  rw [IntKind.wrap_i64]
  omega) hdr ?_
 obtain ⟨A8,hA8⟩:∃ Z,Z=A7.put (I 63) (V E (y:Int)):=⟨_,rfl⟩
 rw [← hA8]
 have f8:Fr [56,57,58,59,60,61,62,63,64,65,66,67] b A8:=by rw [hA8]; exact f7.put (by decide) _
 have g8_59:A8.tmps[59]?=I (V E (x:Int)):=by rw [hA8,Qab _ (by decide)]; exact g7_59
 have g8_63:A8.tmps[63]?=I (V E (y:Int)):=by rw [hA8]; exact Qak _ (by rw [f7.size,hb]; decide)
 clear hA8
 show wpAnyH D .any ops (NoPanic Q) _ (4+1) #[true,true,true,true,true,true,true,true,false,false,false,false,false] _ _
 refine Qao h8' rfl rfl hns (tk1 t8) (tk2 t8) (v:=(J (I ⟨g,o,U⟩) n c)) (fun _ _ _ _ h=>h) (fun W _=>Qdg _ W _ _ _ rfl (Qaf (f8.slot (by decide) s7))) hdr ?_
 obtain ⟨A9,hA9⟩:∃ Z,Z=A8.put (I 64) (J (I ⟨g,o,U⟩) n c):=⟨_,rfl⟩
 rw [← hA9]
 have f9:Fr [56,57,58,59,60,61,62,63,64,65,66,67] b A9:=by rw [hA9]; exact f8.put (by decide) _
 have g9_59:A9.tmps[59]?=I (V E (x:Int)):=by rw [hA9,Qab _ (by decide)]; exact g8_59
 have g9_63:A9.tmps[63]?=I (V E (y:Int)):=by rw [hA9,Qab _ (by decide)]; exact g8_63
 have g9_64:A9.tmps[64]?=I (J (I ⟨g,o,U⟩) n c):=by rw [hA9]; exact Qak _ (by rw [f8.size,hb]; decide)
 clear hA9
 show wpAnyH D .any ops (NoPanic Q) _ (3+1) #[true,true,true,true,true,true,true,true,true,false,false,false,false] _ _
 refine Qao h9' rfl rfl hns (tk1 t9) (tk2 t9) (v:=(J (if c=2 then I ⟨g,o,U⟩ else I ⟨g,o+2,U⟩) (n - 2) (c - 2))) (fun _ _ _ _ h=>h) (fun W _=>by
  have q:=Qaf g9_64
  unfold execOp
  simp only [q]
  by_cases hc2:c=2
  ·simp [go_sem,hc2]
   omega
  ·simp [go_sem,hc2]
   omega) hdr ?_
 obtain ⟨A10,hA10⟩:∃ Z,Z=A9.put (I 65) (J (if c=2 then I ⟨g,o,U⟩ else I ⟨g,o+2,U⟩) (n - 2) (c - 2)):=⟨_,rfl⟩
 rw [← hA10]
 have f10:Fr [56,57,58,59,60,61,62,63,64,65,66,67] b A10:=by rw [hA10]; exact f9.put (by decide) _
 have g10_59:A10.tmps[59]?=I (V E (x:Int)):=by rw [hA10,Qab _ (by decide)]; exact g9_59
 have g10_63:A10.tmps[63]?=I (V E (y:Int)):=by rw [hA10,Qab _ (by decide)]; exact g9_63
 have g10_65:A10.tmps[65]?=I (J (if c=2 then I ⟨g,o,U⟩ else I ⟨g,o+2,U⟩) (n - 2) (c - 2)):=by rw [hA10]; exact Qak _ (by rw [f9.size,hb]; decide)
 clear hA10
 show wpAnyH D .any ops (NoPanic Q) _ (2+1) #[true,true,true,true,true,true,true,true,true,true,false,false,false] _ _
 refine wpAnyH_all r10 (by simp) fun i hi=>?_
 obtain rfl:i=10:=by simpa using hi
 have hdb:Below w1.heap.size w1 { w1 with drawn:=w1.drawn+1 }:=(Below.refl _ w1).drew
 have KN:=Qfp x y (if c=2 then I ⟨g,o,U⟩ else I ⟨g,o+2,U⟩) (c - 2) d { w1 with drawn:=w1.drawn+1 } (by omega) (hrd _ hdb)
 rw [hd] at KN
 refine Qbo h10' rfl (Qo5 (.tmp 59) (.tmp 63) (.tmp 65) (V E (x:Int)) (V E (y:Int)) _ (Qaf g10_59) (Qaf g10_63) (Qaf g10_65) (KN.mono ?_))
 rintro e w8 ⟨u,rfl,⟨a9,c9,rfl,ho⟩,hb8⟩
 rw [hd] at ho ⊢
 have hbw:Below w1.heap.size w1 w8:=hdb.trans hb8
 refine ⟨_,rfl,Qae.of_below hbw _,?_⟩
 show wpAnyH D .any ops (NoPanic Q) _ 2 #[true,true,true,true,true,true,true,true,true,true,true,false,false] (A10.put (I 66) (.agg #[V E (x:Int),V E (y:Int),J a9 (n - 2) c9])) _
 obtain ⟨A11,hA11⟩:∃ Z,Z=A10.put (I 66) (.agg #[V E (x:Int),V E (y:Int),J a9 (n - 2) c9]):=⟨_,rfl⟩
 rw [← hA11]
 have f11:Fr [56,57,58,59,60,61,62,63,64,65,66,67] b A11:=by rw [hA11]; exact f10.put (by decide) _
 have g11_66:A11.tmps[66]?=I (.agg #[V E (x:Int),V E (y:Int),J a9 (n - 2) c9]):=by rw [hA11]; exact Qak _ (by rw [f10.size,hb]; decide)
 clear hA11
 show wpAnyH D .any ops (NoPanic Q) _ (1+1) #[true,true,true,true,true,true,true,true,true,true,true,false,false] _ _
 refine Qao h11' rfl rfl hns (tk1 t11) (tk2 t11) (v:=(R (I ⟨Y,22,U⟩))) (fun _ _ _ _ h=>h) (fun W _=>by
  have q:=Qaf (f11.slot (by decide) s6)
  unfold execOp
  simp only [q]
  simp [go_sem]) (Qae.of_below hbw _) ?_
 obtain ⟨A12,hA12⟩:∃ Z,Z=A11.put (I 67) (R (I ⟨Y,22,U⟩)):=⟨_,rfl⟩
 rw [← hA12]
 have f12:Fr [56,57,58,59,60,61,62,63,64,65,66,67] b A12:=by rw [hA12]; exact f11.put (by decide) _
 have g12_66:A12.tmps[66]?=I (.agg #[V E (x:Int),V E (y:Int),J a9 (n - 2) c9]):=by rw [hA12,Qab _ (by decide)]; exact g11_66
 have g12_67:A12.tmps[67]?=I (R (I ⟨Y,22,U⟩)):=by rw [hA12]; exact Qak _ (by rw [f11.size,hb]; decide)
 clear hA12
 show wpAnyH D .any ops (NoPanic Q) _ (0+1) #[true,true,true,true,true,true,true,true,true,true,true,true,false] _ _
 obtain ⟨W9,hst,b9,_,z9,k9⟩:=Qlb (w:=w8) (Y:=Y) (k:=3) (c:=(x:Int)) (s:=(y:Int)) (a:=a9) (n:=n - 2) (cap:=c9) (by rw [hbw.block _ (L.1 bY).1]; exact bY)
 refine wpAnyH_all r12 (by simp) fun i hi=>?_
 obtain rfl:i=12:=by simpa using hi
 refine Qbo h12' rfl ?_
 unfold Oper.wp execOp
 simp only [Qaf g12_67,Qaf g12_66,Sem.run_bind,hst,Result.andThen_ok,Sem.run_pure]
 refine ⟨(Qae.of_below hbw _).trans k9 (fun x _ e=>e),?_⟩
 show wpAnyH D .any ops (NoPanic Q) _ 0 #[true,true,true,true,true,true,true,true,true,true,true,true,true] A12 _
 exact wpAnyH_done rE (NoPanic.normal (fin _ w8 W9 a9 c9 f12 hbw ho k9 b9 z9)) _
end
theorem Fr.lay12 {t0 t1 t2 t3 t4 t5 t6 t7 t8 t9 t10 t11:Nat}{b a:Act} (h:Fr [t0,t1,t2,t3,t4,t5,t6,t7,t8,t9,t10,t11] b a) (hsz:∀ s∈[t0,t1,t2,t3,t4,t5,t6,t7,t8,t9,t10,t11],s < b.tmps.size) :
  ∃ x0 x1 x2 x3 x4 x5 x6 x7 x8 x9 x10 x11,a=((((((((((((b.put (I t0) x0).put (I t1) x1).put (I t2) x2).put (I t3) x3).put (I t4) x4).put (I t5) x5).put (I t6) x6).put (I t7) x7).put (I t8) x8).put (I t9) x9).put (I t10) x10).put (I t11) x11):=by
 have get:∀ t,t∈[t0,t1,t2,t3,t4,t5,t6,t7,t8,t9,t10,t11]→∃ x,a.tmps[t]?=I x:=fun t ht=>⟨_,Array.getElem?_eq_getElem (by rw [h.size]; exact hsz t ht)⟩
 obtain ⟨x0,h0⟩:=get t0 (by simp)
 obtain ⟨x1,h1⟩:=get t1 (by simp)
 obtain ⟨x2,h2⟩:=get t2 (by simp)
 obtain ⟨x3,h3⟩:=get t3 (by simp)
 obtain ⟨x4,h4⟩:=get t4 (by simp)
 obtain ⟨x5,h5⟩:=get t5 (by simp)
 obtain ⟨x6,h6⟩:=get t6 (by simp)
 obtain ⟨x7,h7⟩:=get t7 (by simp)
 obtain ⟨x8,h8⟩:=get t8 (by simp)
 obtain ⟨x9,h9⟩:=get t9 (by simp)
 obtain ⟨x10,h10⟩:=get t10 (by simp)
 obtain ⟨x11,h11⟩:=get t11 (by simp)
 refine ⟨x0,x1,x2,x3,x4,x5,x6,x7,x8,x9,x10,x11,Fr.eq (b:=b) (l:=[(t0,x0),(t1,x1),(t2,x2),(t3,x3),(t4,x4),(t5,x5),(t6,x6),(t7,x7),(t8,x8),(t9,x9),(t10,x10),(t11,x11)]) (c:=b) rfl h.defers h.size h.out fun p hp=>?_⟩
 simp only [List.mem_cons,List.not_mem_nil,or_false] at hp
 rcases hp with rfl | rfl | rfl | rfl | rfl | rfl | rfl | rfl | rfl | rfl | rfl | rfl <;> assumption
section
attribute [local go_sem ↓] Qbe Qba keptM_alloc Qbb
theorem Qxl (g o n cp:Nat)(bs:List Nat)(w:World)(hn:bs.length=n)(hn21:21≤n)(hl:n≤5000)(hcap:n≤cp)(h:BRd w (I ⟨g,o,U⟩) bs)(hS:Qdb w)(hr:Qa6 bs=(n,0,0,[]))(hk3:bs.getD 18 0=3) :
  Calls D 7 #[J (I ⟨g,o,U⟩) n cp] w fun e w'=>(∃ a8 c8 a9 c9,e=.returned (.tuple #[.agg (Qbt 3 (bs.getD 19 0:Int) (bs.getD 20 0:Int) (J a8 (n - 19 - 2) c8)),.agg #[V E 0,V E 0,J a9 0 c9]])∧w'.ownsRow w.heap.size 5 1 (J a8 (n - 19 - 2) c8) (n - 19 - 2) (Qal (bs.drop 21)))∧Below w.heap.size w w':=by
 have KH:=Qes (I ⟨g,o,U⟩) cp bs w (by omega) (by omega) h hS _ hr
 rw [hn] at KH
 have HK:=Qaa KH
 obtain ⟨g',o',e9,hc⟩:=h.1.2 (by omega)
 cases e9
 have c18:w.cell? ⟨g,o+18,U⟩=I (V .u8 3):=by rw [hc 18 (by omega)]; show I (Value.int .u8 ((bs.getD 18 0:Nat):Int))=_; rw [hk3]; rfl
 have zg:=World.block_lt_of_cell? w _ c18
 simp only at zg
 have hcp19:¬ cp=19:=by omega
 have hni:¬ ((n:Int) < 19):=by omega
 have H29:Hid (21≤n∧n≤5000):=⟨hn21,hl⟩
 have HX19:Hid (∀ X,Below w.heap.size w X→X.cell? ⟨g,o+19,U⟩=I (V .u8 (bs.getD 19 0:Int))∧X.cell? ⟨g,o+19+1,U⟩=I (V .u8 (bs.getD 20 0:Int))∧BRd X (if cp - 19=2 then I ⟨g,o+19,U⟩ else I ⟨g,o+19+2,U⟩) (bs.drop 21)):=fun X hX=>by
  refine ⟨?_,?_,?_⟩
  ·rw [hX.cell (p:=⟨g,o+19,U⟩) zg]; exact hc 19 (by omega)
  ·rw [hX.cell (p:=⟨g,o+19+1,U⟩) zg]; exact hc 20 (by omega)
  ·have h19:=Qds (k:=19) (h.below hX) (by omega)
   have:=Qh1 (a:=if cp - 19=2 then I ⟨g,o+19,U⟩ else I ⟨g,o+19+2,U⟩) (k:=2) (l:=n - 21) (c:=cp - 19) h19 (by rw [M]; omega) (by rw [M]; omega) rfl
   rwa [List.drop_drop,List.take_of_length_le (by rw [M]; omega)] at this
 have hx256:bs.getD 19 0 < 256:=Qau h.2 19
 have hy256:bs.getD 20 0 < 256:=Qau h.2 20
 have hdl:(bs.drop 21).length=n - 19 - 2:=by rw [M]; omega
 have HDL:=Qaa hdl
 clear KH h hS hcap hr hn hk3 hc hl hn21 hdl
 simp only at HK
 generalize bs.getD 19 0=x at *
 generalize bs.getD 20 0=y at *
 generalize bs.drop 21=d at *
 go_enter Tryz.func7,Tryz.ntmps7
 go_wp2_with (refine Qah _ (Qav w) ?_)
 show Calls D 19 #[J (I ⟨g,o,U⟩) n cp] (dW w) _
 with_reducible refine HK.out.mono ?_
 rintro e w1 ⟨a9,c9,rfl,HO,HB⟩
 have HH:=Qaa (Qen a9 0 c9 HB.out zg c18)
 go_wp2_with fail
 generalize (w1.alloc (.cells #[V E 0,V E 0,J a9 0 c9] 38))=W at *
 refine Qgn _ W g o n cp 3 (opi rfl) (opi rfl) (opi rfl) (opi rfl) (opi rfl) (opi rfl) (opi rfl) (opi rfl) (opi rfl) (opi rfl) rfl (by kernel_rfl)
  (by kernel_rfl) (by kernel_rfl) (by kernel_rfl) (by kernel_rfl) (by kernel_rfl) (by kernel_rfl) (by kernel_rfl) (by kernel_rfl) (by kernel_rfl) (by kernel_rfl) (by kernel_rfl)
  rfl rfl (by have:=H29.out.1; omega) (by have:=H29.out.2; omega) (by omega) HH.out.c18 ?_
 intro a W6 hfr h6 h7 bY hb6
 rw [if_neg hcp19] at h7
 obtain ⟨x0,x1,x2,x3,x4,x5,x6,rfl⟩:=hfr.lay9m (by exact (by decide:∀ s∈[29,30,31,32,33,34,35,6,7],s < 75)) h6 h7
 have HD:Hid (D6 w W6 w1.heap.size W.heap.size (Qbt 3 0 0 (J U 0 0)) (J a9 0 c9)):=HH.out.d6 bY hb6
 have hsz:=HH.out.le
 have y0:W6.cell? ⟨W.heap.size,0,U⟩=I (V E 3):=Qai HD.out.bY 0 _ rfl
 have zY:W.heap.size < W6.heap.size:=HD.out.hs
 clear hfr h6 h7 bY hb6
 simp only [Act.put,T,List.set_cons_zero,List.set_cons_succ]
 go_wp2_with fail
 obtain ⟨q19,q20,qd⟩:=HX19.out W6 HD.out.bel
 refine Qxs _ W6 W.heap.size g (o+19) (n - 19) (cp - 19) x y d (opi rfl) (opi rfl) (opi rfl) (opi rfl) (opi rfl) (opi rfl) (opi rfl) (opi rfl) (opi rfl) (opi rfl) (opi rfl) (opi rfl) (opi rfl) rfl (by kernel_rfl)
  (by kernel_rfl) (by kernel_rfl) (by kernel_rfl) (by kernel_rfl) (by kernel_rfl) (by kernel_rfl) (by kernel_rfl) (by kernel_rfl) (by kernel_rfl) (by kernel_rfl) (by kernel_rfl) (by kernel_rfl) (by kernel_rfl) (by kernel_rfl)
  rfl rfl rfl (by have:=H29.out; omega) (by have:=H29.out; omega) hx256 hy256 q19 q20 (by have:=HD.out.hX; have:=HD.out.hY; omega) HD.out.bY HDL.out (fun X hX=>(HX19.out X (HD.out.bel.trans (hX.mono HD.out.bel.size))).2.2) ?_
 intro a W8 W9 a8 c8 hfr hb8 ho8 hk9 b9 z9
 obtain ⟨y0',y1',y2',y3',y4',y5',y6',y7',y8',y9',y10',y11',rfl⟩:=hfr.lay12 (by exact (by decide:∀ s∈[56,57,58,59,60,61,62,63,64,65,66,67],s < 75))
 have zx:w1.heap.size≠W.heap.size∧w.heap.size+2≤w1.heap.size∧w1.heap.size < W.heap.size:=by have:=HD.out.hX; have:=HD.out.hY; omega
 have keepB:∀ j,j < W6.heap.size→j≠W.heap.size→W9.heap[j]?=W6.heap[j]?:=fun j hj hne=>by rw [hk9.block j (by have:=hb8.size; omega) hne,hb8.block j hj]
 have H9M:Hid (W9.heap[w.heap.size]?=I (.cells zM 40 (0,0))):=by show _=_; rw [keepB _ (by omega) (by omega)]; exact HD.out.bM
 have H9N:Hid (W9.heap[w.heap.size+1]?=I (.cells #[V E 0,V E 0,J U 0 0] 38 (0,0))):=by show _=_; rw [keepB _ (by omega) (by omega)]; exact HD.out.bN
 have H9X:Hid (W9.heap[w1.heap.size]?=I (.cells #[V E 0,V E 0,J a9 0 c9] 38 (0,0))):=by show _=_; rw [keepB _ (by omega) (by omega)]; exact HD.out.bX
 have H9Y:=Qaa b9
 have B9:Hid (Below w.heap.size w W9):=HD.out.bel.trans ((hb8.mono HD.out.bel.size).trans (hk9.below _ (by have:=HD.out.bel.size; have:=hb8.size; omega) (fun x e=>by omega)))
 have HOW9:Hid (W9.ownsRow W6.heap.size 5 1 (J a8 (n - 19 - 2) c8) (n - 19 - 2) (Qal d)):=Qas ho8 hk9 (fun x hx=>by omega)
 have zXx:w1.heap.size < W9.heap.size:=(L.1 H9X.out).1
 have zYx:W.heap.size < W9.heap.size:=(L.1 b9).1
 have x9:W9.cell? ⟨w1.heap.size,0,U⟩=I (V E 0):=by have:=Qai H9X.out 0 _ rfl; simpa using this
 clear hfr hb8 ho8 hk9 b9 z9 keepB q19 q20 qd
 simp only [Act.put,T,List.set_cons_zero,List.set_cons_succ]
 go_wp2_with fail
 refine Qcp _ W9 w.heap.size (w.heap.size+1) 40 zM (Qbt 3 (x:Int) (y:Int) (J a8 (n - 19 - 2) c8)) #[V E 0,V E 0,J U 0 0] #[V E 0,V E 0,J a9 0 c9] 73 74 _ _ (opi rfl) (opi rfl) (opi rfl) (opi rfl) rfl (by kernel_rfl) (by kernel_rfl) (by kernel_rfl) (by kernel_rfl) (by kernel_rfl) (by kernel_rfl) (by kernel_rfl) (by kernel_rfl)
  (fun ty po af W' hW=>Qeb (MC.msg 3 (x:Int) (y:Int) a8 (n - 19 - 2) c8) (g:=W.heap.size) (by rfl) (Qai (by rw [hW.block _ zYx (by omega)]; exact H9Y.out)))
  (fun ty po af W' hW=>Qbw (g:=w1.heap.size) (by rfl) (by
   rw [hW.block _ zXx (by omega)]; exact H9X.out)) rfl rfl (show 73 < 75 by decide) (show 74 < 75 by decide) (by decide) H9M.out H9N.out (by omega) rfl rfl infoM infoN (MC.msg 3 (x:Int) (y:Int) a8 (n - 19 - 2) c8).2 (by simp [Value.oneCell']) ?_
 simp only [Act.put,T,List.set_cons_zero,List.set_cons_succ]
 have HRM:Hid (((({ W9 with drawn:=W9.drawn+1 } : World).setCells w.heap.size 0 (Qbt 3 (x:Int) (y:Int) (J a8 (n - 19 - 2) c8)).toList).setCells (w.heap.size+1) 0 (#[Value.int E 0,V E 0,J a9 0 c9]:Array Value).toList).rangeAt w.heap.size 0 (Qbt 3 (x:Int) (y:Int) (J a8 (n - 19 - 2) c8)).toList):=Qb7 (Qb2 (w:={ W9 with drawn:=W9.drawn+1 }) H9M.out (Nat.le_refl _)) (by omega)
 have HRN:Hid (((({ W9 with drawn:=W9.drawn+1 } : World).setCells w.heap.size 0 (Qbt 3 (x:Int) (y:Int) (J a8 (n - 19 - 2) c8)).toList).setCells (w.heap.size+1) 0 (#[Value.int E 0,V E 0,J a9 0 c9]:Array Value).toList).rangeAt (w.heap.size+1) 0 (#[Value.int E 0,V E 0,J a9 0 c9]:Array Value).toList) :=
  Qb2 (C0:=#[V E 0,V E 0,J U 0 0]) (t:=38) (by rw [Qax (by omega)]; exact H9N.out) (by simp)
 have HKe:Hid (Qae (fun x=>x=w.heap.size∨x=w.heap.size+1) W9 ((({ W9 with drawn:=W9.drawn+1 } : World).setCells w.heap.size 0 (Qbt 3 (x:Int) (y:Int) (J a8 (n - 19 - 2) c8)).toList).setCells (w.heap.size+1) 0 (#[Value.int E 0,V E 0,J a9 0 c9]:Array Value).toList)) :=
  (Qae.setCells (w:=W9) (w1:={ W9 with drawn:=W9.drawn+1 }) ⟨rfl,rfl,rfl,Nat.le_refl _,fun _ _ _=>rfl⟩ _ 0 _ (.inl (.inl rfl))).setCells _ 0 _ (.inl (.inr rfl))
 generalize ((({ W9 with drawn:=W9.drawn+1 } : World).setCells w.heap.size 0 (Qbt 3 (x:Int) (y:Int) (J a8 (n - 19 - 2) c8)).toList).setCells (w.heap.size+1) 0 (#[Value.int E 0,V E 0,J a9 0 c9]:Array Value).toList)=WE at *
 go_wp2_with fail
 refine bodyPost_ret (v:=.tuple #[.agg (Qbt 3 (x:Int) (y:Int) (J a8 (n - 19 - 2) c8)),.agg #[V E 0,V E 0,J a9 0 c9]]) (Qar Tryz.results7 _ WE w.heap.size (w.heap.size+1) (Qbt 3 (x:Int) (y:Int) (J a8 (n - 19 - 2) c8)) _ rfl rfl HRM.out HRN.out Tryz.underlying40 rfl infoM Tryz.underlying38 rfl infoN) rfl ?_
 exact ⟨⟨a8,c8,⟨a9,c9,rfl⟩,Qa0 (Qas HOW9.out HKe.out (fun x hx=>by have:=HD.out.hY; have:=HD.out.hs; omega)) (by have:=HD.out.bel.size; omega)⟩,B9.out.trans (HKe.out.below _ B9.out.size (fun x e=>by omega))⟩
end
