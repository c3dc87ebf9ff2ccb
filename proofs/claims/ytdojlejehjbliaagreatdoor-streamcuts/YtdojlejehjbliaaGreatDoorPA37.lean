import Derived.Test.YtdojlejehjbliaaGreatDoorPA36
namespace Go.Proofs.YtdojlejehjbliaaGreatDoor
set_option maxHeartbeats 4000000
open _root_.Option renaming some → I,none → V
open _root_.Go.Value renaming slice → J,int → E,pointer → R
open _root_.Go.Proofs.Tryz renaming prog → U
open _root_.Go.IntKind renaming i64 → D
open _root_.Go.Obj renaming cells → T
open Go.RowKit
set_option maxRecDepth 100000
theorem Qjp (c s:Nat)(a:Option Addr)(cap:Nat)(d:List Nat)(w:World)(hl:d.length≤50000)(h:BRd w a d) :
  Calls U 23 #[E D (c:Int),E D (s:Int),J a d.length cap] w fun e w'=>∃ u,e=.returned u∧Qby w.heap.size w' u c s d∧Below w.heap.size w w':=by
 refine (Qa9 c s a cap d w (by omega) h).mono ?_
 rintro e w' ⟨a9,c9,rfl,ho,hb⟩
 exact ⟨_,rfl,⟨a9,c9,rfl,ho⟩,hb⟩
theorem Qly (w W:World)(hW:MW w W)(k s:Nat)(a:Option Addr)(cap n:Nat)(d:List Nat)(hn:d.length=n)(hl:n≤50000)(h:BRd W a d) :
  Calls U 23 #[E D (k:Int),E D (s:Int),J a n cap] W fun e w3=>∃ a9 c9 W5,e=.returned (.agg #[E D (k:Int),E D (s:Int),J a9 n c9])∧Hid ((Instr.storeAt 40 (R (I ⟨w.heap.size,0,V⟩)) (.agg zM)).run U w3=.ok () W5)∧Hid (Qc3 W5 (w.heap.size+1))∧Hid (Jbf w W5 k s d a9 n c9):=by
 subst hn
 refine (Qjp k s a cap d W hl h).mono ?_
 rintro e w3 ⟨u,rfl,⟨a9,c9,rfl,ho⟩,hb⟩
 have h3:=hW.later hb
 have h5:(w3.setCells w.heap.size 0 zM.toList).heap[w.heap.size]?=I (T zM 40 (0,0)):=Qex h3.bM rfl
 have h6:(w3.setCells w.heap.size 0 zM.toList).heap[w.heap.size+1]?=I (T #[E D 0,E D 0,J V 0 0] 38 (0,0)):=by rw [Qax (by omega)]; exact h3.bN
 have hk:Qae (fun x=>x=w.heap.size∨x=w.heap.size+1) w3 ((w3.setCells w.heap.size 0 zM.toList).setCells (w.heap.size+1) 0 [E D (k:Int),E D (s:Int),J a9 d.length c9]):=((Qae.refl _ _).setCells _ 0 _ (.inl (.inl rfl))).setCells _ 0 _ (.inl (.inr rfl))
 have hsz:w.heap.size+1 < W.heap.size:=(Array.getElem?_eq_some_iff.1 hW.bN).1
 refine ⟨a9,c9,_,rfl,Qd7 h3.bM rfl MC.zero,Quq h6,⟨Qb7 (Qai h5) (by omega),?_,?_,?_⟩⟩
 ·exact Qb2 (C0:=#[E D 0,E D 0,J V 0 0]) (C:=#[E D (k:Int),E D (s:Int),J a9 d.length c9]) h6 (by simp)
 ·exact Qa0 (Qas ho hk (fun x hx=>by omega)) (by omega)
 ·exact h3.bel.trans (hk.below _ h3.bel.size (fun x e=>by omega))
section
variable {a:Act}{w:World}{dst:Option Tmp}{ty:TypeId}{pos:String}{after:Array Edge}{K:Act→World→Prop}{Q:Exit→Act→World→Prop}{ρ:Operand→Value}
theorem Qsy (x y z:Operand)(u v t:Value)(hf:ρ (.func 23)=.func (.func 23) #[] #[])(hx:ρ x=u)(hy:ρ y=v)(hz:ρ z=t) :
  (execOp ρ { dst:=dst,op:=.call { callee:=.value (.func 23),args:=#[x,y,z],argTypes:=#[3,3,22] },type:=ty,pos:=pos,after:=after,guard:=V }).run U w=.ok (.enter 23 #[u,v,t]) w:=by
 unfold execOp
 simp [resolve,invoke,hf,hx,hy,hz,go_sem]
theorem Qro (x y z:Operand)(u v t:Value)(hx:a.eval x=u)(hy:a.eval y=v)(hz:a.eval z=t)(h:Calls U 23 #[u,v,t] w fun e w'=>∃ r,e=.returned r∧K (a.put dst r) w') :
  Oper.wp U { dst:=dst,op:=.call { callee:=.value (.func 23),args:=#[x,y,z],argTypes:=#[3,3,22] },type:=ty,pos:=pos,after:=after,guard:=V } a w K Q:=by
 unfold Oper.wp
 rw [Qsy (ρ:=a.eval) x y z u v t rfl hx hy hz]
 refine Calls.mono h ?_
 rintro _ w' ⟨r,rfl,hk⟩
 exact hk
end
section
variable {ops:Array Oper}{Q:Exit→Act→World→Prop}{id:Nat}
/-- 'm, in := api.Msg{Kind: int(b[18])}, b[19:]'. -/
theorem Qb9 (b:Act)(w1:World)(g o n c kd:Nat)
  (o0:opk ops 0 (I 39) (.move (.tmp 0)))
  (o1:opk ops 1 (I 40) (.indexAddr 22 (.tmp 39) (.const (E D 18))))
  (o2:opk ops 2 (I 41) (.load 5 (.tmp 40)))
  (o3:opk ops 3 (I 42) (.convert 5 3 (.tmp 41)))
  (o4:opk ops 4 (I 43) (.build 40 #[(0,.tmp 42)]))
  (o5:opk ops 5 (I 44) (.move (.tmp 0)))
  (o6:opk ops 6 (I 45) (.slice 22 (.tmp 44) (I (.const (E D 19))) V V))
  (o7:opk ops 7 (I 6) (.alloc 40))
  (o8:opk ops 8 V (.store 40 (.tmp 6) (.tmp 43)))
  (o9:opk ops 9 (I 7) (.assign (.tmp 45)))
  (hsz:ops.size=10) (hns:Region.noSelect ops=true)
  (t0:tk ops #[false,false,false,false,false,false,false,false,false,false] 0=true)
  (t1:tk ops #[true,false,false,false,false,false,false,false,false,false] 1=true)
  (t2:tk ops #[true,true,false,false,false,false,false,false,false,false] 2=true)
  (t3:tk ops #[true,true,true,false,false,false,false,false,false,false] 3=true)
  (t4:tk ops #[true,true,true,true,false,false,false,false,false,false] 4=true)
  (t5:tk ops #[true,true,true,true,true,false,false,false,false,false] 5=true)
  (t6:tk ops #[true,true,true,true,true,true,false,false,false,false] 6=true)
  (r7:Region.ready .any ops #[true,true,true,true,true,true,true,false,false,false]=[7]) (r8:Region.ready .any ops #[true,true,true,true,true,true,true,true,false,false]=[8])
  (r9:Region.ready .any ops #[true,true,true,true,true,true,true,true,true,false]=[9]) (rE:Region.ready .any ops #[true,true,true,true,true,true,true,true,true,true]=[])
  (hb:b.tmps.size=247) (h0:b.tmps[0]?=I (J (I ⟨g,o,V⟩) n c)) (hn:19≤n) (hl:n≤100000) (hkd:kd < 256) (h18:w1.cell? ⟨g,o+18,V⟩=I (E .u8 (kd:Int)))
  (fin:∀ a W6,Fr [39,40,41,42,43,44,45,6,7] b a→a.tmps[6]?=I (R (I ⟨w1.heap.size,0,V⟩))→a.tmps[7]?=I (J (if c=19 then I ⟨g,o,V⟩ else I ⟨g,o+19,V⟩) (n - 19) (c - 19))→W6.heap[w1.heap.size]?=I (T (Qbt (kd:Int) 0 0 (J V 0 0)) 40 (0,0))→Below w1.heap.size w1 W6→Q .normal a W6) :
  (Code.region id ops true).wp U Q b w1:=by
 obtain ⟨a0,p0,e0,h0'⟩:=o0
 obtain ⟨a1,p1,e1,h1'⟩:=o1
 obtain ⟨a2,p2,e2,h2'⟩:=o2
 obtain ⟨a3,p3,e3,h3'⟩:=o3
 obtain ⟨a4,p4,e4,h4'⟩:=o4
 obtain ⟨a5,p5,e5,h5'⟩:=o5
 obtain ⟨a6,p6,e6,h6'⟩:=o6
 obtain ⟨a7,p7,e7,h7'⟩:=o7
 obtain ⟨a8,p8,e8,h8'⟩:=o8
 obtain ⟨a9,p9,e9,h9'⟩:=o9
 have hg:=World.block_lt_of_cell? w1 _ h18
 simp only at hg
 have hn18:(18:Int) < (n:Int):=by omega
 refine wp_region_noPanic ?_
 refine wp_region_held (S:=fun W=>Below w1.heap.size w1 W) (by kernel_rfl) ?_
 rw [hsz]
 have hdr:Below w1.heap.size w1 { w1 with drawn:=w1.drawn+1 }:=(Below.refl _ w1).drew
 obtain ⟨X7,hX7⟩:∃ X7,X7=({ w1 with drawn:=w1.drawn+1 } : World).alloc (T zM 40):=⟨_,rfl⟩
 have hb7:Below w1.heap.size w1 X7:=by rw [hX7]; exact hdr.alloc (Nat.le_refl _) _
 have bx:X7.heap[w1.heap.size]?=I (T zM 40 (0,0)):=by rw [hX7]; exact heap_alloc_new ({ w1 with drawn:=w1.drawn+1 } : World) _
 have f0:Fr [39,40,41,42,43,44,45,6,7] b b:=Fr.refl _ _
 show wpAnyH U .any ops (NoPanic Q) _ (9+1) #[false,false,false,false,false,false,false,false,false,false] _ _
 refine Qao h0' rfl rfl hns (tk1 t0) (tk2 t0) (v:=(J (I ⟨g,o,V⟩) n c)) (fun _ _ _ _ h=>h) (fun W _=>Qdg _ W _ _ _ rfl (Qaf (f0.slot (by decide) h0))) hdr ?_
 obtain ⟨A1,hA1⟩:∃ Z,Z=b.put (I 39) (J (I ⟨g,o,V⟩) n c):=⟨_,rfl⟩
 rw [← hA1]
 have f1:Fr [39,40,41,42,43,44,45,6,7] b A1:=by rw [hA1]; exact f0.put (by decide) _
 have g1_29:A1.tmps[39]?=I (J (I ⟨g,o,V⟩) n c):=by rw [hA1]; exact Qak _ (by rw [f0.size,hb]; decide)
 clear hA1
 show wpAnyH U .any ops (NoPanic Q) _ (8+1) #[true,false,false,false,false,false,false,false,false,false] _ _
 refine Qao h1' rfl rfl hns (tk1 t1) (tk2 t1) (v:=(R (I ⟨g,o+18,V⟩))) (fun _ _ _ _ h=>h) (fun W _=>by
  have q:=Qaf g1_29
  unfold execOp
  simp only [q]
  simp [go_sem,hn18]) hdr ?_
 obtain ⟨A2,hA2⟩:∃ Z,Z=A1.put (I 40) (R (I ⟨g,o+18,V⟩)):=⟨_,rfl⟩
 rw [← hA2]
 have f2:Fr [39,40,41,42,43,44,45,6,7] b A2:=by rw [hA2]; exact f1.put (by decide) _
 have g2_29:A2.tmps[39]?=I (J (I ⟨g,o,V⟩) n c):=by rw [hA2,Qab _ (by decide)]; exact g1_29
 have g2_30:A2.tmps[40]?=I (R (I ⟨g,o+18,V⟩)):=by rw [hA2]; exact Qak _ (by rw [f1.size,hb]; decide)
 clear hA2
 clear g2_29
 show wpAnyH U .any ops (NoPanic Q) _ (7+1) #[true,true,false,false,false,false,false,false,false,false] _ _
 refine Qao h2' rfl rfl hns (tk1 t2) (tk2 t2) (v:=(E .u8 (kd:Int))) (fun _ _ _ _ h=>h) (fun W hW=>by
  have q:=Qaf g2_30
  have q2:W.cell? ⟨g,o+18,V⟩=I (E .u8 (kd:Int)):=by rw [hW.cell (p:=⟨g,o+18,V⟩) hg]; exact h18
  unfold execOp
  simp only [q]
  simp [go_sem,q2]) hdr ?_
 obtain ⟨A3,hA3⟩:∃ Z,Z=A2.put (I 41) (E .u8 (kd:Int)):=⟨_,rfl⟩
 rw [← hA3]
 have f3:Fr [39,40,41,42,43,44,45,6,7] b A3:=by rw [hA3]; exact f2.put (by decide) _
 have g3_30:A3.tmps[40]?=I (R (I ⟨g,o+18,V⟩)):=by rw [hA3,Qab _ (by decide)]; exact g2_30
 have g3_31:A3.tmps[41]?=I (E .u8 (kd:Int)):=by rw [hA3]; exact Qak _ (by rw [f2.size,hb]; decide)
 clear hA3
 clear g3_30
 show wpAnyH U .any ops (NoPanic Q) _ (6+1) #[true,true,true,false,false,false,false,false,false,false] _ _
 refine Qao h3' rfl rfl hns (tk1 t3) (tk2 t3) (v:=(E D (kd:Int))) (fun _ _ _ _ h=>h) (fun W _=>by
  have q:=Qaf g3_31
  unfold execOp
  simp only [q]
  simp [go_sem]
  rw [IntKind.wrap_i64]
  omega) hdr ?_
 obtain ⟨A4,hA4⟩:∃ Z,Z=A3.put (I 42) (E D (kd:Int)):=⟨_,rfl⟩
 rw [← hA4]
 have f4:Fr [39,40,41,42,43,44,45,6,7] b A4:=by rw [hA4]; exact f3.put (by decide) _
 have g4_31:A4.tmps[41]?=I (E .u8 (kd:Int)):=by rw [hA4,Qab _ (by decide)]; exact g3_31
 have g4_32:A4.tmps[42]?=I (E D (kd:Int)):=by rw [hA4]; exact Qak _ (by rw [f3.size,hb]; decide)
 clear hA4
 clear g4_31
 show wpAnyH U .any ops (NoPanic Q) _ (5+1) #[true,true,true,true,false,false,false,false,false,false] _ _
 refine Qao h4' rfl rfl hns (tk1 t4) (tk2 t4) (v:=(.agg (Qbt (kd:Int) 0 0 (J V 0 0)))) (fun _ _ _ _ h=>h) (fun W _=>by
  have q:=Qaf g4_32
  unfold execOp
  have e:(#[((0:Nat),Operand.tmp 42)].map fun (i,x)=>(i,A4.eval x))=#[(0,E D (kd:Int))]:=by simp [q]
  simp only [e,Sem.run_bind,Qg6,Result.andThen_ok,Sem.run_pure]) hdr ?_
 obtain ⟨A5,hA5⟩:∃ Z,Z=A4.put (I 43) (.agg (Qbt (kd:Int) 0 0 (J V 0 0))):=⟨_,rfl⟩
 rw [← hA5]
 have f5:Fr [39,40,41,42,43,44,45,6,7] b A5:=by rw [hA5]; exact f4.put (by decide) _
 have g5_32:A5.tmps[42]?=I (E D (kd:Int)):=by rw [hA5,Qab _ (by decide)]; exact g4_32
 have g5_33:A5.tmps[43]?=I (.agg (Qbt (kd:Int) 0 0 (J V 0 0))):=by rw [hA5]; exact Qak _ (by rw [f4.size,hb]; decide)
 clear hA5
 clear g5_32
 show wpAnyH U .any ops (NoPanic Q) _ (4+1) #[true,true,true,true,true,false,false,false,false,false] _ _
 refine Qao h5' rfl rfl hns (tk1 t5) (tk2 t5) (v:=(J (I ⟨g,o,V⟩) n c)) (fun _ _ _ _ h=>h) (fun W _=>Qdg _ W _ _ _ rfl (Qaf (f5.slot (by decide) h0))) hdr ?_
 obtain ⟨A6,hA6⟩:∃ Z,Z=A5.put (I 44) (J (I ⟨g,o,V⟩) n c):=⟨_,rfl⟩
 rw [← hA6]
 have f6:Fr [39,40,41,42,43,44,45,6,7] b A6:=by rw [hA6]; exact f5.put (by decide) _
 have g6_33:A6.tmps[43]?=I (.agg (Qbt (kd:Int) 0 0 (J V 0 0))):=by rw [hA6,Qab _ (by decide)]; exact g5_33
 have g6_34:A6.tmps[44]?=I (J (I ⟨g,o,V⟩) n c):=by rw [hA6]; exact Qak _ (by rw [f5.size,hb]; decide)
 clear hA6
 show wpAnyH U .any ops (NoPanic Q) _ (3+1) #[true,true,true,true,true,true,false,false,false,false] _ _
 refine Qao h6' rfl rfl hns (tk1 t6) (tk2 t6) (v:=(J (if c=19 then I ⟨g,o,V⟩ else I ⟨g,o+19,V⟩) (n - 19) (c - 19))) (fun _ _ _ _ h=>h) (fun W _=>by
  have q:=Qaf g6_34
  unfold execOp
  simp only [q]
  by_cases hc19:c=19
  ·simp [go_sem,hc19]
   omega
  ·simp [go_sem,hc19]
   omega) hdr ?_
 obtain ⟨A7,hA7⟩:∃ Z,Z=A6.put (I 45) (J (if c=19 then I ⟨g,o,V⟩ else I ⟨g,o+19,V⟩) (n - 19) (c - 19)):=⟨_,rfl⟩
 rw [← hA7]
 have f7:Fr [39,40,41,42,43,44,45,6,7] b A7:=by rw [hA7]; exact f6.put (by decide) _
 have g7_33:A7.tmps[43]?=I (.agg (Qbt (kd:Int) 0 0 (J V 0 0))):=by rw [hA7,Qab _ (by decide)]; exact g6_33
 have g7_34:A7.tmps[44]?=I (J (I ⟨g,o,V⟩) n c):=by rw [hA7,Qab _ (by decide)]; exact g6_34
 have g7_35:A7.tmps[45]?=I (J (if c=19 then I ⟨g,o,V⟩ else I ⟨g,o+19,V⟩) (n - 19) (c - 19)):=by rw [hA7]; exact Qak _ (by rw [f6.size,hb]; decide)
 clear hA7
 clear g7_34
 show wpAnyH U .any ops (NoPanic Q) _ (2+1) #[true,true,true,true,true,true,true,false,false,false] _ _
 refine wpAnyH_all r7 (by simp) fun i hi=>?_
 obtain rfl:i=7:=by simpa using hi
 refine Qbo h7' rfl (Qgr (w':=X7) (v:=R (I ⟨w1.heap.size,0,V⟩)) (by
  unfold execOp
  simp only [Sem.run_bind,Qav,Result.andThen_ok,Sem.run_pure]
  rw [hX7]) ?_)
 refine ⟨hb7,?_⟩
 show wpAnyH U .any ops (NoPanic Q) _ 2 #[true,true,true,true,true,true,true,true,false,false] (A7.put (I 6) (R (I ⟨w1.heap.size,0,V⟩))) _
 obtain ⟨A8,hA8⟩:∃ Z,Z=A7.put (I 6) (R (I ⟨w1.heap.size,0,V⟩)):=⟨_,rfl⟩
 rw [← hA8]
 have f8:Fr [39,40,41,42,43,44,45,6,7] b A8:=by rw [hA8]; exact f7.put (by decide) _
 have g8_33:A8.tmps[43]?=I (.agg (Qbt (kd:Int) 0 0 (J V 0 0))):=by rw [hA8,Qab _ (by decide)]; exact g7_33
 have g8_35:A8.tmps[45]?=I (J (if c=19 then I ⟨g,o,V⟩ else I ⟨g,o+19,V⟩) (n - 19) (c - 19)):=by rw [hA8,Qab _ (by decide)]; exact g7_35
 have g8_6:A8.tmps[6]?=I (R (I ⟨w1.heap.size,0,V⟩)):=by rw [hA8]; exact Qak _ (by rw [f7.size,hb]; decide)
 clear hA8
 show wpAnyH U .any ops (NoPanic Q) _ (1+1) #[true,true,true,true,true,true,true,true,false,false] _ _
 refine wpAnyH_all r8 (by simp) fun i hi=>?_
 obtain rfl:i=8:=by simpa using hi
 refine Qbo h8' rfl ?_
 unfold Oper.wp execOp
 simp only [Qaf g8_6,Qaf g8_33,Sem.run_bind,Qd7 bx rfl (MC.msg (kd:Int) 0 0 V 0 0),Result.andThen_ok,Sem.run_pure]
 have hb8:Below w1.heap.size w1 (X7.setCells w1.heap.size 0 (Qbt (kd:Int) 0 0 (J V 0 0)).toList):=hb7.trans (((Qae.refl (fun x=>x=w1.heap.size) _).setCells w1.heap.size 0 _ (.inl rfl)).below w1.heap.size hb7.size (fun x e=>by omega))
 refine ⟨hb8,?_⟩
 show wpAnyH U .any ops (NoPanic Q) _ 1 #[true,true,true,true,true,true,true,true,true,false] A8 _
 show wpAnyH U .any ops (NoPanic Q) _ (0+1) #[true,true,true,true,true,true,true,true,true,false] _ _
 refine wpAnyH_all r9 (by simp) fun i hi=>?_
 obtain rfl:i=9:=by simpa using hi
 refine Qbo h9' rfl (Qgr (v:=(J (if c=19 then I ⟨g,o,V⟩ else I ⟨g,o+19,V⟩) (n - 19) (c - 19))) (by
  have q:=Qaf g8_35
  unfold execOp
  simp only [q,Sem.run_pure]
  rfl) ?_)
 refine ⟨hb8,?_⟩
 show wpAnyH U .any ops (NoPanic Q) _ 0 #[true,true,true,true,true,true,true,true,true,true] (A8.put (I 7) (J (if c=19 then I ⟨g,o,V⟩ else I ⟨g,o+19,V⟩) (n - 19) (c - 19))) _
 obtain ⟨A9,hA9⟩:∃ Z,Z=A8.put (I 7) (J (if c=19 then I ⟨g,o,V⟩ else I ⟨g,o+19,V⟩) (n - 19) (c - 19)):=⟨_,rfl⟩
 rw [← hA9]
 have f9:Fr [39,40,41,42,43,44,45,6,7] b A9:=by rw [hA9]; exact f8.put (by decide) _
 have g9_33:A9.tmps[43]?=I (.agg (Qbt (kd:Int) 0 0 (J V 0 0))):=by rw [hA9,Qab _ (by decide)]; exact g8_33
 have g9_35:A9.tmps[45]?=I (J (if c=19 then I ⟨g,o,V⟩ else I ⟨g,o+19,V⟩) (n - 19) (c - 19)):=by rw [hA9,Qab _ (by decide)]; exact g8_35
 have g9_6:A9.tmps[6]?=I (R (I ⟨w1.heap.size,0,V⟩)):=by rw [hA9,Qab _ (by decide)]; exact g8_6
 have g9_7:A9.tmps[7]?=I (J (if c=19 then I ⟨g,o,V⟩ else I ⟨g,o+19,V⟩) (n - 19) (c - 19)):=by rw [hA9]; exact Qak _ (by rw [f8.size,hb]; decide)
 clear hA9
 exact wpAnyH_done rE (NoPanic.normal (fin _ _ f9 g9_6 g9_7 (Qex bx rfl) hb8)) _
theorem Qt4 (b:Act)(w1:World)(Y g o n c x y:Nat)(d:List Nat)
  (o0:opk ops 0 (I 233) (.move (.tmp 7)))
  (o1:opk ops 1 (I 234) (.indexAddr 22 (.tmp 233) (.const (E D 0))))
  (o2:opk ops 2 (I 235) (.load 5 (.tmp 234)))
  (o3:opk ops 3 (I 236) (.convert 5 3 (.tmp 235)))
  (o4:opk ops 4 (I 237) (.move (.tmp 7)))
  (o5:opk ops 5 (I 238) (.indexAddr 22 (.tmp 237) (.const (E D 1))))
  (o6:opk ops 6 (I 239) (.load 5 (.tmp 238)))
  (o7:opk ops 7 (I 240) (.convert 5 3 (.tmp 239)))
  (o8:opk ops 8 (I 241) (.move (.tmp 7)))
  (o9:opk ops 9 (I 242) (.slice 22 (.tmp 241) (I (.const (E D 2))) V V))
  (o10:opk ops 10 (I 243) (.call { callee:=.value (.func 23),args:=#[.tmp 236,.tmp 240,.tmp 242],argTypes:=#[3,3,22] }))
  (o11:opk ops 11 (I 244) (.fieldAddr 40 (.tmp 6) 3))
  (o12:opk ops 12 V (.store 38 (.tmp 244) (.tmp 243)))
  (hsz:ops.size=13) (hns:Region.noSelect ops=true)
  (t0:tk ops #[false,false,false,false,false,false,false,false,false,false,false,false,false] 0=true)
  (t1:tk ops #[true,false,false,false,false,false,false,false,false,false,false,false,false] 1=true)
  (t2:tk ops #[true,true,false,false,false,false,false,false,false,false,false,false,false] 2=true)
  (t3:tk ops #[true,true,true,false,false,false,false,false,false,false,false,false,false] 3=true)
  (t4:tk ops #[true,true,true,true,false,false,false,false,false,false,false,false,false] 4=true)
  (t5:tk ops #[true,true,true,true,true,false,false,false,false,false,false,false,false] 5=true)
  (t6:tk ops #[true,true,true,true,true,true,false,false,false,false,false,false,false] 6=true)
  (t7:tk ops #[true,true,true,true,true,true,true,false,false,false,false,false,false] 7=true)
  (t8:tk ops #[true,true,true,true,true,true,true,true,false,false,false,false,false] 8=true)
  (t9:tk ops #[true,true,true,true,true,true,true,true,true,false,false,false,false] 9=true)
  (t11:tk ops #[true,true,true,true,true,true,true,true,true,true,true,false,false] 11=true)
  (r10:Region.ready .any ops #[true,true,true,true,true,true,true,true,true,true,false,false,false]=[10]) (r12:Region.ready .any ops #[true,true,true,true,true,true,true,true,true,true,true,true,false]=[12]) (rE:Region.ready .any ops #[true,true,true,true,true,true,true,true,true,true,true,true,true]=[])
  (hb:b.tmps.size=247) (s7:b.tmps[7]?=I (J (I ⟨g,o,V⟩) n c)) (s6:b.tmps[6]?=I (R (I ⟨Y,0,V⟩)))
  (hn:2≤n) (hl:n≤5000) (hx:x < 256) (hy:y < 256) (cx:w1.cell? ⟨g,o,V⟩=I (E .u8 (x:Int))) (cy:w1.cell? ⟨g,o+1,V⟩=I (E .u8 (y:Int)))
  (hgY:g≠Y) (bY:w1.heap[Y]?=I (T (Qbt 3 0 0 (J V 0 0)) 40 (0,0)))
  (hd:d.length=n - 2) (hrd:∀ X,Below w1.heap.size w1 X→BRd X (if c=2 then I ⟨g,o,V⟩ else I ⟨g,o+2,V⟩) d)
  (fin:∀ a W8 W9 a9 c9,Fr [233,234,235,236,237,238,239,240,241,242,243,244] b a→Below w1.heap.size w1 W8→W8.ownsRow w1.heap.size 5 1 (J a9 (n - 2) c9) (n - 2) (Qal d)→Qae (fun k=>k=Y) W8 W9→W9.heap[Y]?=I (T (Qbt 3 (x:Int) (y:Int) (J a9 (n - 2) c9)) 40 (0,0))→W9.heap.size=W8.heap.size→Q .normal a W9) :
  (Code.region id ops true).wp U Q b w1:=by
 obtain ⟨a0,p0,e0,h0'⟩:=o0
 obtain ⟨a1,p1,e1,h1'⟩:=o1
 obtain ⟨a2,p2,e2,h2'⟩:=o2
 obtain ⟨a3,p3,e3,h3'⟩:=o3
 obtain ⟨a4,p4,e4,h4'⟩:=o4
 obtain ⟨a5,p5,e5,h5'⟩:=o5
 obtain ⟨a6,p6,e6,h6'⟩:=o6
 obtain ⟨a7,p7,e7,h7'⟩:=o7
 obtain ⟨a8,p8,e8,h8'⟩:=o8
 obtain ⟨a9,p9,e9,h9'⟩:=o9
 obtain ⟨a10,p10,e10,h10'⟩:=o10
 obtain ⟨a11,p11,e11,h11'⟩:=o11
 obtain ⟨a12,p12,e12,h12'⟩:=o12
 have zg:=World.block_lt_of_cell? w1 _ cx
 simp only at zg
 have hn0:¬ n=0:=by omega
 have hn1:(1:Int) < (n:Int):=by omega
 have hn2:(2:Int)≤(n:Int):=by omega
 refine wp_region_noPanic ?_
 refine wp_region_held (S:=fun W=>Qae (fun k=>k=Y) w1 W) (by kernel_rfl) ?_
 rw [hsz]
 have hdr:Qae (fun k=>k=Y) w1 { w1 with drawn:=w1.drawn+1 }:=⟨rfl,rfl,rfl,Nat.le_refl _,fun _ _ _=>rfl⟩
 have f0:Fr [233,234,235,236,237,238,239,240,241,242,243,244] b b:=Fr.refl _ _
 show wpAnyH U .any ops (NoPanic Q) _ (12+1) #[false,false,false,false,false,false,false,false,false,false,false,false,false] _ _
 refine Qao h0' rfl rfl hns (tk1 t0) (tk2 t0) (v:=(J (I ⟨g,o,V⟩) n c)) (fun _ _ _ _ h=>h) (fun W _=>Qdg _ W _ _ _ rfl (Qaf (f0.slot (by decide) s7))) hdr ?_
 obtain ⟨A1,hA1⟩:∃ Z,Z=b.put (I 233) (J (I ⟨g,o,V⟩) n c):=⟨_,rfl⟩
 rw [← hA1]
 have f1:Fr [233,234,235,236,237,238,239,240,241,242,243,244] b A1:=by rw [hA1]; exact f0.put (by decide) _
 have g1_56:A1.tmps[233]?=I (J (I ⟨g,o,V⟩) n c):=by rw [hA1]; exact Qak _ (by rw [f0.size,hb]; decide)
 clear hA1
 show wpAnyH U .any ops (NoPanic Q) _ (11+1) #[true,false,false,false,false,false,false,false,false,false,false,false,false] _ _
 refine Qao h1' rfl rfl hns (tk1 t1) (tk2 t1) (v:=(R (I ⟨g,o,V⟩))) (fun _ _ _ _ h=>h) (fun W _=>by
  have q:=Qaf g1_56
  unfold execOp
  simp only [q]
  simp [go_sem,hn0]) hdr ?_
 obtain ⟨A2,hA2⟩:∃ Z,Z=A1.put (I 234) (R (I ⟨g,o,V⟩)):=⟨_,rfl⟩
 rw [← hA2]
 have f2:Fr [233,234,235,236,237,238,239,240,241,242,243,244] b A2:=by rw [hA2]; exact f1.put (by decide) _
 have g2_57:A2.tmps[234]?=I (R (I ⟨g,o,V⟩)):=by rw [hA2]; exact Qak _ (by rw [f1.size,hb]; decide)
 clear hA2
 show wpAnyH U .any ops (NoPanic Q) _ (10+1) #[true,true,false,false,false,false,false,false,false,false,false,false,false] _ _
 refine Qao h2' rfl rfl hns (tk1 t2) (tk2 t2) (v:=(E .u8 (x:Int))) (fun _ _ _ _ h=>h) (fun W hW=>by
  have q:=Qaf g2_57
  have q2:W.cell? ⟨g,o,V⟩=I (E .u8 (x:Int)):=by rw [hW.cell ⟨g,o,V⟩ zg hgY]; exact cx
  unfold execOp
  simp only [q]
  simp [go_sem,q2]) hdr ?_
 obtain ⟨A3,hA3⟩:∃ Z,Z=A2.put (I 235) (E .u8 (x:Int)):=⟨_,rfl⟩
 rw [← hA3]
 have f3:Fr [233,234,235,236,237,238,239,240,241,242,243,244] b A3:=by rw [hA3]; exact f2.put (by decide) _
 have g3_58:A3.tmps[235]?=I (E .u8 (x:Int)):=by rw [hA3]; exact Qak _ (by rw [f2.size,hb]; decide)
 clear hA3
 show wpAnyH U .any ops (NoPanic Q) _ (9+1) #[true,true,true,false,false,false,false,false,false,false,false,false,false] _ _
 refine Qao h3' rfl rfl hns (tk1 t3) (tk2 t3) (v:=(E D (x:Int))) (fun _ _ _ _ h=>h) (fun W _=>by
  have q:=Qaf g3_58
  unfold execOp
  simp only [q]
  simp [go_sem]
  rw [IntKind.wrap_i64]
  omega) hdr ?_
 obtain ⟨A4,hA4⟩:∃ Z,Z=A3.put (I 236) (E D (x:Int)):=⟨_,rfl⟩
 rw [← hA4]
 have f4:Fr [233,234,235,236,237,238,239,240,241,242,243,244] b A4:=by rw [hA4]; exact f3.put (by decide) _
 have g4_59:A4.tmps[236]?=I (E D (x:Int)):=by rw [hA4]; exact Qak _ (by rw [f3.size,hb]; decide)
 clear hA4
 show wpAnyH U .any ops (NoPanic Q) _ (8+1) #[true,true,true,true,false,false,false,false,false,false,false,false,false] _ _
 refine Qao h4' rfl rfl hns (tk1 t4) (tk2 t4) (v:=(J (I ⟨g,o,V⟩) n c)) (fun _ _ _ _ h=>h) (fun W _=>Qdg _ W _ _ _ rfl (Qaf (f4.slot (by decide) s7))) hdr ?_
 obtain ⟨A5,hA5⟩:∃ Z,Z=A4.put (I 237) (J (I ⟨g,o,V⟩) n c):=⟨_,rfl⟩
 rw [← hA5]
 have f5:Fr [233,234,235,236,237,238,239,240,241,242,243,244] b A5:=by rw [hA5]; exact f4.put (by decide) _
 have g5_59:A5.tmps[236]?=I (E D (x:Int)):=by rw [hA5,Qab _ (by decide)]; exact g4_59
 have g5_60:A5.tmps[237]?=I (J (I ⟨g,o,V⟩) n c):=by rw [hA5]; exact Qak _ (by rw [f4.size,hb]; decide)
 clear hA5
 show wpAnyH U .any ops (NoPanic Q) _ (7+1) #[true,true,true,true,true,false,false,false,false,false,false,false,false] _ _
 refine Qao h5' rfl rfl hns (tk1 t5) (tk2 t5) (v:=(R (I ⟨g,o+1,V⟩))) (fun _ _ _ _ h=>h) (fun W _=>by
  have q:=Qaf g5_60
  unfold execOp
  simp only [q]
  simp [go_sem,hn1]) hdr ?_
 obtain ⟨A6,hA6⟩:∃ Z,Z=A5.put (I 238) (R (I ⟨g,o+1,V⟩)):=⟨_,rfl⟩
 rw [← hA6]
 have f6:Fr [233,234,235,236,237,238,239,240,241,242,243,244] b A6:=by rw [hA6]; exact f5.put (by decide) _
 have g6_59:A6.tmps[236]?=I (E D (x:Int)):=by rw [hA6,Qab _ (by decide)]; exact g5_59
 have g6_61:A6.tmps[238]?=I (R (I ⟨g,o+1,V⟩)):=by rw [hA6]; exact Qak _ (by rw [f5.size,hb]; decide)
 clear hA6
 show wpAnyH U .any ops (NoPanic Q) _ (6+1) #[true,true,true,true,true,true,false,false,false,false,false,false,false] _ _
 refine Qao h6' rfl rfl hns (tk1 t6) (tk2 t6) (v:=(E .u8 (y:Int))) (fun _ _ _ _ h=>h) (fun W hW=>by
  have q:=Qaf g6_61
  have q2:W.cell? ⟨g,o+1,V⟩=I (E .u8 (y:Int)):=by rw [hW.cell ⟨g,o+1,V⟩ zg hgY]; exact cy
  unfold execOp
  simp only [q]
  simp [go_sem,q2]) hdr ?_
 obtain ⟨A7,hA7⟩:∃ Z,Z=A6.put (I 239) (E .u8 (y:Int)):=⟨_,rfl⟩
 rw [← hA7]
 have f7:Fr [233,234,235,236,237,238,239,240,241,242,243,244] b A7:=by rw [hA7]; exact f6.put (by decide) _
 have g7_59:A7.tmps[236]?=I (E D (x:Int)):=by rw [hA7,Qab _ (by decide)]; exact g6_59
 have g7_62:A7.tmps[239]?=I (E .u8 (y:Int)):=by rw [hA7]; exact Qak _ (by rw [f6.size,hb]; decide)
 clear hA7
 show wpAnyH U .any ops (NoPanic Q) _ (5+1) #[true,true,true,true,true,true,true,false,false,false,false,false,false] _ _
 refine Qao h7' rfl rfl hns (tk1 t7) (tk2 t7) (v:=(E D (y:Int))) (fun _ _ _ _ h=>h) (fun W _=>by
  have q:=Qaf g7_62
  unfold execOp
  simp only [q]
  simp [go_sem]
  rw [IntKind.wrap_i64]
  omega) hdr ?_
 obtain ⟨A8,hA8⟩:∃ Z,Z=A7.put (I 240) (E D (y:Int)):=⟨_,rfl⟩
 rw [← hA8]
 have f8:Fr [233,234,235,236,237,238,239,240,241,242,243,244] b A8:=by rw [hA8]; exact f7.put (by decide) _
 have g8_59:A8.tmps[236]?=I (E D (x:Int)):=by rw [hA8,Qab _ (by decide)]; exact g7_59
 have g8_63:A8.tmps[240]?=I (E D (y:Int)):=by rw [hA8]; exact Qak _ (by rw [f7.size,hb]; decide)
 clear hA8
 show wpAnyH U .any ops (NoPanic Q) _ (4+1) #[true,true,true,true,true,true,true,true,false,false,false,false,false] _ _
 refine Qao h8' rfl rfl hns (tk1 t8) (tk2 t8) (v:=(J (I ⟨g,o,V⟩) n c)) (fun _ _ _ _ h=>h) (fun W _=>Qdg _ W _ _ _ rfl (Qaf (f8.slot (by decide) s7))) hdr ?_
 obtain ⟨A9,hA9⟩:∃ Z,Z=A8.put (I 241) (J (I ⟨g,o,V⟩) n c):=⟨_,rfl⟩
 rw [← hA9]
 have f9:Fr [233,234,235,236,237,238,239,240,241,242,243,244] b A9:=by rw [hA9]; exact f8.put (by decide) _
 have g9_59:A9.tmps[236]?=I (E D (x:Int)):=by rw [hA9,Qab _ (by decide)]; exact g8_59
 have g9_63:A9.tmps[240]?=I (E D (y:Int)):=by rw [hA9,Qab _ (by decide)]; exact g8_63
 have g9_64:A9.tmps[241]?=I (J (I ⟨g,o,V⟩) n c):=by rw [hA9]; exact Qak _ (by rw [f8.size,hb]; decide)
 clear hA9
 show wpAnyH U .any ops (NoPanic Q) _ (3+1) #[true,true,true,true,true,true,true,true,true,false,false,false,false] _ _
 refine Qao h9' rfl rfl hns (tk1 t9) (tk2 t9) (v:=(J (if c=2 then I ⟨g,o,V⟩ else I ⟨g,o+2,V⟩) (n - 2) (c - 2))) (fun _ _ _ _ h=>h) (fun W _=>by
  have q:=Qaf g9_64
  unfold execOp
  simp only [q]
  by_cases hc2:c=2
  ·simp [go_sem,hc2]
   omega
  ·simp [go_sem,hc2]
   omega) hdr ?_
 obtain ⟨A10,hA10⟩:∃ Z,Z=A9.put (I 242) (J (if c=2 then I ⟨g,o,V⟩ else I ⟨g,o+2,V⟩) (n - 2) (c - 2)):=⟨_,rfl⟩
 rw [← hA10]
 have f10:Fr [233,234,235,236,237,238,239,240,241,242,243,244] b A10:=by rw [hA10]; exact f9.put (by decide) _
 have g10_59:A10.tmps[236]?=I (E D (x:Int)):=by rw [hA10,Qab _ (by decide)]; exact g9_59
 have g10_63:A10.tmps[240]?=I (E D (y:Int)):=by rw [hA10,Qab _ (by decide)]; exact g9_63
 have g10_65:A10.tmps[242]?=I (J (if c=2 then I ⟨g,o,V⟩ else I ⟨g,o+2,V⟩) (n - 2) (c - 2)):=by rw [hA10]; exact Qak _ (by rw [f9.size,hb]; decide)
 clear hA10
 show wpAnyH U .any ops (NoPanic Q) _ (2+1) #[true,true,true,true,true,true,true,true,true,true,false,false,false] _ _
 refine wpAnyH_all r10 (by simp) fun i hi=>?_
 obtain rfl:i=10:=by simpa using hi
 have hdb:Below w1.heap.size w1 { w1 with drawn:=w1.drawn+1 }:=(Below.refl _ w1).drew
 have KN:=Qjp x y (if c=2 then I ⟨g,o,V⟩ else I ⟨g,o+2,V⟩) (c - 2) d { w1 with drawn:=w1.drawn+1 } (by omega) (hrd _ hdb)
 rw [hd] at KN
 refine Qbo h10' rfl (Qro (.tmp 236) (.tmp 240) (.tmp 242) (E D (x:Int)) (E D (y:Int)) _ (Qaf g10_59) (Qaf g10_63) (Qaf g10_65) (KN.mono ?_))
 rintro e w8 ⟨u,rfl,⟨a9,c9,rfl,ho⟩,hb8⟩
 rw [hd] at ho ⊢
 have hbw:Below w1.heap.size w1 w8:=hdb.trans hb8
 refine ⟨_,rfl,Qae.of_below hbw _,?_⟩
 show wpAnyH U .any ops (NoPanic Q) _ 2 #[true,true,true,true,true,true,true,true,true,true,true,false,false] (A10.put (I 243) (.agg #[E D (x:Int),E D (y:Int),J a9 (n - 2) c9])) _
 obtain ⟨A11,hA11⟩:∃ Z,Z=A10.put (I 243) (.agg #[E D (x:Int),E D (y:Int),J a9 (n - 2) c9]):=⟨_,rfl⟩
 rw [← hA11]
 have f11:Fr [233,234,235,236,237,238,239,240,241,242,243,244] b A11:=by rw [hA11]; exact f10.put (by decide) _
 have g11_66:A11.tmps[243]?=I (.agg #[E D (x:Int),E D (y:Int),J a9 (n - 2) c9]):=by rw [hA11]; exact Qak _ (by rw [f10.size,hb]; decide)
 clear hA11
 show wpAnyH U .any ops (NoPanic Q) _ (1+1) #[true,true,true,true,true,true,true,true,true,true,true,false,false] _ _
 refine Qao h11' rfl rfl hns (tk1 t11) (tk2 t11) (v:=(R (I ⟨Y,22,V⟩))) (fun _ _ _ _ h=>h) (fun W _=>by
  have q:=Qaf (f11.slot (by decide) s6)
  unfold execOp
  simp only [q]
  simp [go_sem]) (Qae.of_below hbw _) ?_
 obtain ⟨A12,hA12⟩:∃ Z,Z=A11.put (I 244) (R (I ⟨Y,22,V⟩)):=⟨_,rfl⟩
 rw [← hA12]
 have f12:Fr [233,234,235,236,237,238,239,240,241,242,243,244] b A12:=by rw [hA12]; exact f11.put (by decide) _
 have g12_66:A12.tmps[243]?=I (.agg #[E D (x:Int),E D (y:Int),J a9 (n - 2) c9]):=by rw [hA12,Qab _ (by decide)]; exact g11_66
 have g12_67:A12.tmps[244]?=I (R (I ⟨Y,22,V⟩)):=by rw [hA12]; exact Qak _ (by rw [f11.size,hb]; decide)
 clear hA12
 show wpAnyH U .any ops (NoPanic Q) _ (0+1) #[true,true,true,true,true,true,true,true,true,true,true,true,false] _ _
 obtain ⟨W9,hst,b9,_,z9,k9⟩:=Qlb (w:=w8) (Y:=Y) (k:=3) (c:=(x:Int)) (s:=(y:Int)) (a:=a9) (n:=n - 2) (cap:=c9) (by rw [hbw.block _ (Array.getElem?_eq_some_iff.1 bY).1]; exact bY)
 refine wpAnyH_all r12 (by simp) fun i hi=>?_
 obtain rfl:i=12:=by simpa using hi
 refine Qbo h12' rfl ?_
 unfold Oper.wp execOp
 simp only [Qaf g12_67,Qaf g12_66,Sem.run_bind,hst,Result.andThen_ok,Sem.run_pure]
 refine ⟨(Qae.of_below hbw _).trans k9 (fun x _ e=>e),?_⟩
 show wpAnyH U .any ops (NoPanic Q) _ 0 #[true,true,true,true,true,true,true,true,true,true,true,true,true] A12 _
 exact wpAnyH_done rE (NoPanic.normal (fin _ w8 W9 a9 c9 f12 hbw ho k9 b9 z9)) _
end
theorem Qhm (a:Option Addr)(c:Nat)(bs:List Nat)(w:World)(hl:bs.length≤100000)(hcap:bs.length≤c)(h:BRd w a bs)(r:Nat×Nat×Nat×List Nat)(hr:Qa6 bs=r) :
  Calls U 15 #[J a bs.length c] (dW w) fun e w1=>∃ a9 c9,e=.returned (.tuple #[E D (r.1:Int),.agg #[E D (r.2.1:Int),E D (r.2.2.1:Int),J a9 r.2.2.2.length c9]])∧Hid (w1.ownsRow (w.heap.size+2) 5 1 (J a9 r.2.2.2.length c9) r.2.2.2.length (Qal r.2.2.2))∧Hid (Below (w.heap.size+2) (dW w) w1):=by
 subst hr
 refine (Qhk a c bs (dW w) hl hcap (h.below (Qdy w))).mono ?_
 rintro e w1 ⟨⟨u,rfl,a9,c9,rfl,ho⟩,hb⟩
 rw [Qdm] at ho hb
 exact ⟨a9,c9,rfl,ho,hb⟩
structure Jcl (w W W5:World) (C:Array Value):Prop where
 rM:(W5.setCells (w.heap.size+1) 0 [E D 0,E D 0,J V 0 0]).rangeAt w.heap.size 0 C.toList
 rN:(W5.setCells (w.heap.size+1) 0 [E D 0,E D 0,J V 0 0]).rangeAt (w.heap.size+1) 0 [E D 0,E D 0,J V 0 0]
 keep:Qae (fun x=>x=w.heap.size∨x=w.heap.size+1) W (W5.setCells (w.heap.size+1) 0 [E D 0,E D 0,J V 0 0])
 bel:Below w.heap.size w (W5.setCells (w.heap.size+1) 0 [E D 0,E D 0,J V 0 0])
theorem Qet {w W:World}{Y:Nat}{C:Array Value} (hM:W.heap[w.heap.size]?=I (T zM 40 (0,0))) (hN:W.heap[w.heap.size+1]?=I (T #[E D 0,E D 0,J V 0 0] 38 (0,0))) (hY:W.heap[Y]?=I (T C 40 (0,0))) (hC:MC C) (hb:Below w.heap.size w W) :
  ∃ W5,Hid ((Instr.loadAt 40 (R (I ⟨Y,0,V⟩))).run U W=.ok (.agg C) W)∧Hid ((Instr.storeAt 40 (R (I ⟨w.heap.size,0,V⟩)) (.agg C)).run U W=.ok () W5)∧Hid (Qc3 W5 (w.heap.size+1))∧Hid (Jcl w W W5 C):=by
 have h5:(W.setCells w.heap.size 0 C.toList).heap[w.heap.size]?=I (T C 40 (0,0)):=Qex hM hC.1
 have h6:(W.setCells w.heap.size 0 C.toList).heap[w.heap.size+1]?=I (T #[E D 0,E D 0,J V 0 0] 38 (0,0)):=by rw [Qax (by omega)]; exact hN
 have hk:Qae (fun x=>x=w.heap.size∨x=w.heap.size+1) W ((W.setCells w.heap.size 0 C.toList).setCells (w.heap.size+1) 0 [E D 0,E D 0,J V 0 0]):=((Qae.refl _ _).setCells _ 0 _ (.inl (.inl rfl))).setCells _ 0 _ (.inl (.inr rfl))
 refine ⟨_,Qgc (Qai hY) hC,Qd7 hM rfl hC,Quq h6,⟨Qb7 (Qai h5) (by omega),?_,hk,?_⟩⟩
 ·exact Qb2 (C0:=#[E D 0,E D 0,J V 0 0]) (C:=#[E D 0,E D 0,J V 0 0]) h6 (by simp)
 ·exact hb.trans (hk.below _ hb.size (fun x e=>by omega))
