import Derived.Test.YtdojlejehjbliaaGreatDoorPA23
namespace Go.Proofs.YtdojlejehjbliaaGreatDoor
set_option maxHeartbeats 4000000
open _root_.Option renaming none → I,some → U
open _root_.Go.Value renaming slice → J,int → V,pointer → K
open _root_.Go.IntKind renaming i64 → Q
open _root_.Go.Proofs.Tryz renaming prog → E
open _root_.Go.Ending renaming returned → D
open _root_.Go.Obj renaming cells → R
open Go.RowKit
set_option maxRecDepth 100000
theorem Qjs {α:Type}(P:Nat→α→Prop):∀ n,(∀ i,i < n→∃ x,P i x)→∃ l:List α,l.length=n∧∀ i x,l[i]?=U x→P i x
 | 0,_=>⟨[],rfl,fun i x h=>by simp at h⟩
 | n+1,h=>by
  obtain ⟨l,hl,hp⟩:=Qjs P n (fun i hi=>h i (by omega))
  obtain ⟨x,hx⟩:=h n (by omega)
  refine ⟨l++[x],by simp [hl],fun i y hi=>?_⟩
  by_cases hlt:i < l.length
  ·rw [List.getElem?_append_left hlt] at hi
   exact hp i y hi
  ·rw [List.getElem?_append_right (by omega)] at hi
   have h0:i - l.length=0:=by have:=(List.getElem?_eq_some_iff.1 hi).1; simpa using this
   rw [h0] at hi
   simp at hi
   subst hi
   have:i=n:=by omega
   rw [this]
   exact hx
theorem Qmn {w w':World}{B B' e e' size size' n n' g c:Nat}{v:Value}{xs xs':List Value}(h:w.ownsRow B e size v n xs)(h':w.ownsRow B' e' size' (J (U ⟨g,0,I⟩) n' c) n' xs')(hne:e≠e')(hk:Qae (fun b=>b=g) w w'):w'.ownsRow B e size v n xs:=by
 refine ⟨h.1,?_⟩
 rcases h.2 with hh | ⟨g2,cap,cur,e1,hb,hc,rest⟩
 ·exact .inl hh
 ·refine .inr ⟨g2,cap,cur,e1,hb,?_,rest⟩
  rw [hk.block g2 (Array.getElem?_eq_some_iff.1 hc).1 (fun h9=>by
   have:=Qdq h h' hne g2 (by rw [e1]; rfl)
   exact this (by rw [h9]; rfl))]
  exact hc
theorem Qu8 {w:World}{B:Nat}{p:Option Addr}{c:Nat}{rs S:List (Int×Int×List Nat)}(h:Qbr w B (J p rs.length c) rs)(hl:rs.length≤100000)(hS:S.Perm rs)(hup:S.Pairwise fun x y=>x.2.1 < y.2.1) :
  Calls E 69 #[J p rs.length c,.func (.func 70) #[] #[]] w fun e w'=>e=D (.tuple #[])∧Qbr w' B (J p rs.length c) S∧∃ g,B≤g∧Qae (fun b=>b=g) w w'∧∀ (e' size' n':Nat) (v:Value) (xs:List Value),e'≠102→w.ownsRow B e' size' v n' xs→w'.ownsRow B e' size' v n' xs:=by
 by_cases h0:rs=[]
 ·subst h0
  have hS0:S=[]:=List.perm_nil.1 hS
  subst hS0
  refine (Qsz p c w).mono ?_
  rintro e w' ⟨rfl,rfl⟩
  exact ⟨rfl,h,B,Nat.le_refl _,Qae.refl _ _,fun _ _ _ _ _ _ h9=>h9⟩
 ·have hpos:0 < rs.length:=List.length_pos_iff.2 h0
  obtain ⟨cs,ho,hc⟩:=h
  obtain ⟨g,hp⟩:∃ g,p=U ⟨g,0,I⟩:=by
   rcases ho.2 with ⟨_,e⟩ | ⟨g,cap,cur,e,_⟩
   ·omega
   ·simp only [Value.slice.injEq] at e
    exact ⟨g,e.1⟩
  subst hp
  have hgB:B≤g:=(Qb1 ho g rfl).1
  obtain ⟨Z,hZl,hZ⟩:=Qjs (fun i (z:RE×(Int×Int×List Nat))=>rs[i]?=U z.2∧z.1.1=z.2.1∧z.1.2.1=z.2.2.1∧cs[i * 3]?=U (V Q z.1.1)∧cs[i * 3+1]?=U (V Q z.1.2.1)∧cs[i * 3+2]?=U (J z.1.2.2.1 z.1.2.2.2.1 z.1.2.2.2.2)∧w.ownsRow B 5 1 (J z.1.2.2.1 z.1.2.2.2.1 z.1.2.2.2.2) z.2.2.2.length (Qal z.2.2.2)) rs.length (fun i hi=>by
   obtain ⟨h1,h2,u,h3,h4⟩:=hc i _ (List.getElem?_eq_getElem hi)
   obtain ⟨a',c',rfl⟩:=Qbs h4
   exact ⟨((rs[i].1,rs[i].2.1,a',rs[i].2.2.length,c'),rs[i]),List.getElem?_eq_getElem hi,rfl,rfl,h1,h2,h3,h4⟩)
  have hfst:∀ i x,(Z.map fun z=>z.1)[i]?=U x→∃ z:RE×(Int×Int×List Nat),Z[i]?=U z∧z.1=x:=fun i x hx=>by
   rw [List.getElem?_map] at hx
   cases hz:Z[i]? with
   | none=>rw [hz] at hx; cases hx
   | some z=>rw [hz] at hx; exact ⟨z,hz,Option.some.inj hx⟩
  have hR:Qxf cs (Z.map fun z=>z.1):=fun i x hx=>by
   obtain ⟨z,hz,rfl⟩:=hfst i x hx
   obtain ⟨_,_,_,g1,g2,g3,_⟩:=hZ i z hz
   exact ⟨g1,g2,g3⟩
  have hsnd:(Z.map fun z=>z.2)=rs:=by
   apply List.ext_getElem?
   intro i
   rw [List.getElem?_map]
   by_cases hi:i < Z.length
   ·rw [List.getElem?_eq_getElem hi,(hZ i _ (List.getElem?_eq_getElem hi)).1]; rfl
   ·rw [List.getElem?_eq_none (by omega),List.getElem?_eq_none (by omega)]; rfl
  refine (Qv1 (Z.map fun z=>z.1) B g rs.length c cs w ho (by rw [List.length_map]; exact hZl) hR hl).mono ?_
  rintro e w' ⟨rfl,d',cs',hperm,hsort,ho',hR',hk⟩
  obtain ⟨Z',hZp,e1,e2⟩:=Qvb (fun x:RE=>x.2.1) (fun r:Int×Int×List Nat=>r.2.1) d' Z hperm hsort (fun z hz=>by
   obtain ⟨i,hi,rfl⟩:=List.mem_iff_getElem.1 hz
   exact (hZ i _ (List.getElem?_eq_getElem hi)).2.2.1) S (by rw [hsnd]; exact hS) hup
  have hSl:S.length=rs.length:=hS.length_eq
  refine ⟨rfl,⟨cs',by rw [hSl]; exact ho',fun i r hr=>?_⟩,g,hgB,hk,fun e' size' n' v xs hne h9=>Qmn h9 ho hne hk⟩
  rw [← e2,List.getElem?_map] at hr
  cases hz:Z'[i]? with
  | none=>rw [hz] at hr; cases hr
  | some z =>
   rw [hz] at hr
   have ez:z.2=r:=Option.some.inj hr
   have hzm:z∈Z:=hZp.mem_iff.1 (List.mem_of_getElem? hz)
   obtain ⟨j,hj,ej⟩:=List.mem_iff_getElem.1 hzm
   obtain ⟨_,q1,q2,_,_,_,q6⟩:=hZ j z (by rw [List.getElem?_eq_getElem hj,ej])
   obtain ⟨g1,g2,g3⟩:=hR' i z.1 (by rw [← e1,List.getElem?_map,hz]; rfl)
   rw [← ez]
   exact ⟨by rw [g1,q1],by rw [g2,q2],_,g3,Qmn q6 ho (by decide) hk⟩
theorem Qw8 {w:World}{X B:Nat}{x b:At}{seen:List Nat}{p:Option Addr}{c:Nat}(h:Box w X B x)(hr:Rel x b seen)(hl:x.raws.length≤100000)(hv:w.cell? ⟨X,6,I⟩=U (J p x.raws.length c)) :
  Calls E 69 #[J p x.raws.length c,.func (.func 70) #[] #[]] w fun e w'=>e=D (.tuple #[])∧Box w' X B b∧Qae (Qa2 X B) w w':=by
 obtain ⟨p6,k6,q6,o6⟩:=h.c6
 rw [hv] at q6
 simp only [Option.some.injEq,Value.slice.injEq,true_and] at q6
 obtain ⟨rfl,rfl⟩:=q6
 refine (Qu8 o6 hl hr.perm hr.up).mono ?_
 rintro e w' ⟨rfl,hO,g,hg,hk,hoth⟩
 have hXB:=h.lt
 have hX:=h.pos
 have cX:∀ j,w'.cell? ⟨X,j,I⟩=w.cell? ⟨X,j,I⟩:=fun j=>hk.cell ⟨X,j,I⟩ hX (fun e=>by simp only at e; omega)
 have fX:∀ j,w'.frozen? ⟨X,j,I⟩=false:=fun j=>by
  rw [World.frozen?_of_block (w:=w) (hk.block X hX (fun e=>by omega))]
  exact h.fz j
 obtain ⟨p1,k1,q1,o1⟩:=h.c1
 obtain ⟨p5,k5,q5,o5⟩:=h.c5
 have oP:Qa7 w' B (J p1 x.path.length k1) x.path:=by
  obtain ⟨cs,ho,hc⟩:=o1
  refine ⟨cs,hoth _ _ _ _ _ (by decide) ho,fun i s hi=>?_⟩
  obtain ⟨g1,u,g2,g3⟩:=hc i s hi
  exact ⟨g1,u,g2,hoth _ _ _ _ _ (by decide) g3⟩
 have eb:=hr.eq
 have hlen:b.raws.length=x.raws.length:=hr.perm.length_eq
 refine ⟨rfl,?_,⟨hk.os,hk.tape,hk.output,hk.size,fun k hk2 hn=>hk.block k hk2 (fun e=>hn (.inr (by omega)))⟩⟩
 rw [eb]
 exact ⟨by rw [cX]; exact h.c0,⟨p1,k1,by rw [cX]; exact q1,oP⟩,by rw [cX]; exact h.c2,by rw [cX]; exact h.c3,by rw [cX]; exact h.c4,⟨p5,k5,by rw [cX]; exact q5,hoth _ _ _ _ _ (by decide) o5⟩,⟨p,c,by rw [cX]; show _=U (Value.slice p b.raws.length c); rw [hlen]; exact hv,by show Qbr w' B (J p b.raws.length c) b.raws; rw [hlen]; exact hO⟩,fX,hXB⟩
def Qh0 (w:World)(Y:Nat)(seen:List Nat):Prop:=∀ i,i < 256→w.cell? ⟨Y,i,I⟩=U (.bool (decide (i∈seen)))∧w.frozen? ⟨Y,i,I⟩=false
theorem Qh0.keeps {F:Nat→Prop}{w w':World}{Y:Nat}{seen:List Nat}(h:Qh0 w Y seen)(hk:Qae F w w')(hF:¬ F Y):Qh0 w' Y seen:=fun i hi=>by
 have hY:=World.block_lt_of_cell? w _ (h i hi).1
 simp only at hY
 exact ⟨by rw [hk.cell ⟨Y,i,I⟩ hY hF]; exact (h i hi).1,by rw [World.frozen?_of_block (w:=w) (hk.block Y hY hF)]; exact (h i hi).2⟩
theorem Qh0.put {w:World}{Y:Nat}{seen:List Nat}(h:Qh0 w Y seen)(t:Nat)(ht:t < 256):Qh0 (w.setCell ⟨Y,t,I⟩ (.bool true)) Y (t :: seen):=fun i hi=>by
 refine ⟨?_,by rw [World.frozen?_setCell]; exact (h i hi).2⟩
 by_cases e:i=t
 ·subst e
  rw [World.cell?_setCell_same _ _ _ (h i hi).1]
  simp
 ·rw [World.cell?_setCell_other _ _ _ _ (by intro e9; injection e9 with _ e2 _; exact e e2.symm),(h i hi).1]
  congr 2
  rw [Bool.eq_iff_iff]
  simp only [decide_eq_true_eq,List.mem_cons]
  constructor
  ·exact fun h9=>.inr h9
  ·rintro (h9 | h9)
   ·exact absurd h9 e
   ·exact h9
theorem infoSeen:(E.info? 97).map (fun i=>(i.zero,i.size,i.bytes))=U (U (.agg (Array.replicate 256 (.bool false))),256,256):=by kernel_rfl
theorem Qg2 (w:World):(Instr.alloc 97 true (.tuple #[])).run E w=.ok (K (U ⟨w.heap.size,0,I⟩)) (w.alloc (R (Array.replicate 256 (.bool false)) 97)):=by
 obtain ⟨i0,hi0,hz0,_,_⟩:=Qcz infoSeen
 simp [Instr.alloc,zeroValue,typeInfo,hi0,hz0,newVar,newRow,Value.cells]
theorem Qny (w:World):Qh0 (w.alloc (R (Array.replicate 256 (.bool false)) 97)) w.heap.size []:=fun i hi=>by
 refine ⟨?_,by simp [go_sem]⟩
 rw [World.cell?_alloc_mark,Array.getElem?_replicate,if_pos hi]
 simp
theorem Qrs (p q:Addr)(w:World) :
  CallsD E 65 #[K (U p),K (U q)] .returning w fun e u' w'=>e=D (.tuple #[])∧u'=.returning∧w'=w:=by
 refine callsD_of_wpS Tryz.func65 rfl fun c₀ cs hu=>?_
 apply wpS_seq
 apply wpS_region
 simp [wpOpsS,go_sem,recoverD,hu,Tryz.ntmps65,Exit.thenS]
 refine wpS_of_wp ?_
 change Code.wp E _ _ { tmps:=#[K (U p),K (U q),.nilIface,.nilIface,undef,undef,undef,undef,undef],defers:=[] } w
 go_wp2
 cases c₀
 simp_all [bodyPostS,results,Tryz.results65]
theorem Qn7 (W:World)(v:Value):(Instr.typeAssert (.iface 120 v) 20 120 false).run E W=.ok v W:=by kernel_rfl
theorem Qpr (X N:Nat)(s:Int)(a:Option Addr)(n c:Nat)(w:World)(hXN:X≠N)
  (hx:∀ j,j < 7→∃ v,w.cell? ⟨X,j,I⟩=U v) (fx:∀ j,w.frozen? ⟨X,j,I⟩=false) (hn:∀ j,j < 3→∃ v,w.cell? ⟨N,j,I⟩=U v) (fn:∀ j,w.frozen? ⟨N,j,I⟩=false) :
  CallsD E 65 #[K (U ⟨X,0,I⟩),K (U ⟨N,0,I⟩)] (.panicking [{ v:=.iface 120 (.agg #[V Q 3,V Q s,J a n c]),recovered:=false }]) w fun e u' w' =>
   e=D (.tuple #[])∧u'=.panicking [{ v:=.iface 120 (.agg #[V Q 3,V Q s,J a n c]),recovered:=true }]∧Qae (fun b=>b=X∨b=N) w w' ∧
    (∀ j v,[Value.int Q 0,J I 0 0,V .u32 0,V Q 0,V Q 0,J I 0 0,J I 0 0][j]?=U v→w'.cell? ⟨X,j,I⟩=U v)∧(∀ j v,[Value.int Q 3,V Q s,J a n c][j]?=U v→w'.cell? ⟨N,j,I⟩=U v):=by
 obtain ⟨x0,hx0⟩:=hx 0 (by omega)
 obtain ⟨x1,hx1⟩:=hx 1 (by omega)
 obtain ⟨x2,hx2⟩:=hx 2 (by omega)
 obtain ⟨x3,hx3⟩:=hx 3 (by omega)
 obtain ⟨x4,hx4⟩:=hx 4 (by omega)
 obtain ⟨x5,hx5⟩:=hx 5 (by omega)
 obtain ⟨x6,hx6⟩:=hx 6 (by omega)
 obtain ⟨n0,hn0⟩:=hn 0 (by omega)
 obtain ⟨n1,hn1⟩:=hn 1 (by omega)
 obtain ⟨n2,hn2⟩:=hn 2 (by omega)
 have fx0:=fx 0
 have fx1:=fx 1
 have fx2:=fx 2
 have fx3:=fx 3
 have fx4:=fx 4
 have fx5:=fx 5
 have fx6:=fx 6
 have fn0:=fn 0
 have fn1:=fn 1
 have fn2:=fn 2
 have hNX:N≠X:=fun h=>hXN h.symm
 have hta:=Qn7
 clear hx hn fx fn
 refine callsD_of_wpS Tryz.func65 rfl fun c₀ cs hu=>?_
 apply wpS_seq
 apply wpS_region
 simp [wpOpsS,go_sem,recoverD,hu,Tryz.ntmps65,Exit.thenS]
 refine wpS_of_wp ?_
 change Code.wp E _ _ { tmps:=#[K (U ⟨X,0,I⟩),K (U ⟨N,0,I⟩),.iface 120 (.agg #[V Q 3,V Q s,J a n c]),.iface 120 (.agg #[V Q 3,V Q s,J a n c]),undef,undef,undef,undef,undef],defers:=[] } w
 go_wp2_with fail
 go_region
 have hk:Qae (fun b=>b=X∨b=N) w ((((((((((w.setCell ⟨X,0,I⟩ (V Q 0)).setCell ⟨X,1,I⟩ (J I 0 0)).setCell ⟨X,2,I⟩ (V .u32 0)).setCell ⟨X,3,I⟩ (V Q 0)).setCell ⟨X,4,I⟩ (V Q 0)).setCell ⟨X,5,I⟩ (J I 0 0)).setCell ⟨X,6,I⟩ (J I 0 0)).setCell ⟨N,0,I⟩ (V Q 3)).setCell ⟨N,1,I⟩ (V Q s)).setCell ⟨N,2,I⟩ (J a n c)).drew :=
  (((((((((((Qae.refl _ w).setCell X 0 _ (.inl (.inl rfl))).setCell X 1 _ (.inl (.inl rfl))).setCell X 2 _ (.inl (.inl rfl))).setCell X 3 _ (.inl (.inl rfl))).setCell X 4 _ (.inl (.inl rfl))).setCell X 5 _ (.inl (.inl rfl))).setCell X 6 _ (.inl (.inl rfl))).setCell N 0 _ (.inl (.inr rfl))).setCell N 1 _ (.inl (.inr rfl))).setCell N 2 _ (.inl (.inr rfl))).drew
 have hcx:∀ j v,[Value.int Q 0,J I 0 0,V .u32 0,V Q 0,V Q 0,J I 0 0,J I 0 0][j]?=U v→((((((((((w.setCell ⟨X,0,I⟩ (V Q 0)).setCell ⟨X,1,I⟩ (J I 0 0)).setCell ⟨X,2,I⟩ (V .u32 0)).setCell ⟨X,3,I⟩ (V Q 0)).setCell ⟨X,4,I⟩ (V Q 0)).setCell ⟨X,5,I⟩ (J I 0 0)).setCell ⟨X,6,I⟩ (J I 0 0)).setCell ⟨N,0,I⟩ (V Q 3)).setCell ⟨N,1,I⟩ (V Q s)).setCell ⟨N,2,I⟩ (J a n c)).drew.cell? ⟨X,j,I⟩=U v:=by
  intro j v h
  have hj:j < 7:=by have:=(List.getElem?_eq_some_iff.1 h).1; simpa using this
  rcases (by omega:j=0∨j=1∨j=2∨j=3∨j=4∨j=5∨j=6) with rfl | rfl | rfl | rfl | rfl | rfl | rfl <;> (simp at h; subst h; simp [go_sem,hx0,hx1,hx2,hx3,hx4,hx5,hx6])
 have hcn:∀ j v,[Value.int Q 3,V Q s,J a n c][j]?=U v→((((((((((w.setCell ⟨X,0,I⟩ (V Q 0)).setCell ⟨X,1,I⟩ (J I 0 0)).setCell ⟨X,2,I⟩ (V .u32 0)).setCell ⟨X,3,I⟩ (V Q 0)).setCell ⟨X,4,I⟩ (V Q 0)).setCell ⟨X,5,I⟩ (J I 0 0)).setCell ⟨X,6,I⟩ (J I 0 0)).setCell ⟨N,0,I⟩ (V Q 3)).setCell ⟨N,1,I⟩ (V Q s)).setCell ⟨N,2,I⟩ (J a n c)).drew.cell? ⟨N,j,I⟩=U v:=by
  intro j v h
  have hj:j < 3:=by have:=(List.getElem?_eq_some_iff.1 h).1; simpa using this
  rcases (by omega:j=0∨j=1∨j=2) with rfl | rfl | rfl <;> (simp at h; subst h; simp [go_sem,hn0,hn1,hn2])
 generalize ((((((((((w.setCell ⟨X,0,I⟩ (V Q 0)).setCell ⟨X,1,I⟩ (J I 0 0)).setCell ⟨X,2,I⟩ (V .u32 0)).setCell ⟨X,3,I⟩ (V Q 0)).setCell ⟨X,4,I⟩ (V Q 0)).setCell ⟨X,5,I⟩ (J I 0 0)).setCell ⟨X,6,I⟩ (J I 0 0)).setCell ⟨N,0,I⟩ (V Q 3)).setCell ⟨N,1,I⟩ (V Q s)).setCell ⟨N,2,I⟩ (J a n c)).drew=W at *
 exact ⟨rfl,_,rfl,_,results_none rfl _ _ _,rfl,rfl,hk,hcx,hcn⟩
def Qj0 (w w':World)(r:Res)(e:Ending):Prop :=
 match r with
 | .inl n=>∃ a9 c9,e=D (.tuple #[.agg #[V Q 0,J I 0 0,V .u32 0,V Q 0,V Q 0,J I 0 0,J I 0 0],.agg #[V Q 3,V Q (n.2.1:Int),J a9 n.2.2.length c9]])∧w'.ownsRow w.heap.size 5 1 (J a9 n.2.2.length c9) n.2.2.length (Qal n.2.2)
 | .inr b=>∃ p1 k1 p5 k5 p6 k6,e=D (.tuple #[atV p1 k1 p5 k5 p6 k6 b,.agg #[V Q 0,V Q 0,J I 0 0]])∧Qa7 w' w.heap.size (J p1 b.path.length k1) b.path∧w'.ownsRow w.heap.size 24 1 (J p5 b.comms.length k5) b.comms.length (Qb8 b.comms)∧Qbr w' w.heap.size (J p6 b.raws.length k6) b.raws
structure Qz0 (w:World) (N:Nat):Prop where
 c0:w.cell? ⟨N,0,I⟩=U (V Q 0)
 c1:w.cell? ⟨N,1,I⟩=U (V Q 0)
 c2:w.cell? ⟨N,2,I⟩=U (J I 0 0)
 fz:∀ j,w.frozen? ⟨N,j,I⟩=false
theorem Qz0.keeps {F:Nat→Prop}{w w':World}{N:Nat}(h:Qz0 w N)(hk:Qae F w w')(hF:¬ F N):Qz0 w' N:=by
 have hN:=World.block_lt_of_cell? w _ h.c0
 simp only at hN
 exact ⟨by rw [hk.cell ⟨N,0,I⟩ hN hF]; exact h.c0,by rw [hk.cell ⟨N,1,I⟩ hN hF]; exact h.c1,by rw [hk.cell ⟨N,2,I⟩ hN hF]; exact h.c2,fun j=>by rw [World.frozen?_of_block (w:=w) (hk.block N hN hF)]; exact h.fz j⟩
structure Qsh (bs:List Nat) (w wq:World) (rem:List Nat) (a':Option Addr) (x b:At) (seen:List Nat):Prop where
 rd:BRd wq a' rem
 low:∀ ad,a'=U ad→0 < rem.length→ad.block < w.heap.size
 cnt:rem.length+3 * seen.length≤bs.length
 box:Box wq w.heap.size (w.heap.size+3) x
 note:Qz0 wq (w.heap.size+1)
 stood:Qh0 wq (w.heap.size+1+1) seen
 rel:Rel x b seen
 run:Qbv bs=Qpp rem b seen
 bel:Below w.heap.size w wq
 sz:w.heap.size+3≤wq.heap.size
theorem Qus (a:Option Addr)(bs:List Nat)(w:World)(h:BRd w a bs):Qsh bs w (((w.alloc (R #[V Q 0,J I 0 0,V .u32 0,V Q (-1),V Q (-1),J I 0 0,J I 0 0] 34)).alloc (R #[V Q 0,V Q 0,J I 0 0] 38)).alloc (R (Array.replicate 256 (.bool false)) 97)) bs a ⟨0,[],0,-1,-1,[],[]⟩ ⟨0,[],0,-1,-1,[],[]⟩ []:=by
 have hb:Below w.heap.size w (((w.alloc (R #[V Q 0,J I 0 0,V .u32 0,V Q (-1),V Q (-1),J I 0 0,J I 0 0] 34)).alloc (R #[V Q 0,V Q 0,J I 0 0] 38)).alloc (R (Array.replicate 256 (.bool false)) 97)):=(((Below.refl _ _).alloc (Nat.le_refl _) _).alloc (by simp) _).alloc (by simp; omega) _
 have c:∀ (j:Nat) (v:Value),#[Value.int Q 0,J I 0 0,V .u32 0,V Q (-1),V Q (-1),J I 0 0,J I 0 0][j]?=U v→(((w.alloc (R #[V Q 0,J I 0 0,V .u32 0,V Q (-1),V Q (-1),J I 0 0,J I 0 0] 34)).alloc (R #[V Q 0,V Q 0,J I 0 0] 38)).alloc (R (Array.replicate 256 (.bool false)) 97)).cell? ⟨w.heap.size,j,I⟩=U v:=fun j v hj=>by
  rw [World.cell?_alloc_old _ _ _ (by simp; omega),World.cell?_alloc_old _ _ _ (by simp),World.cell?_alloc_mark]
  exact hj
 refine ⟨h.below hb,fun ad he hp=>h.1.lt ad he hp,by simp,⟨c 0 _ rfl,⟨I,0,c 1 _ rfl,Qa7.nil _ _⟩,c 2 _ rfl,c 3 _ rfl,c 4 _ rfl,⟨I,0,c 5 _ rfl,Qbm _ _ _ _⟩,⟨I,0,c 6 _ rfl,Qbr.nil _ _⟩,fun j=>by simp [go_sem],by omega⟩,⟨by simp [go_sem],by simp [go_sem],by simp [go_sem],fun j=>by simp [go_sem]⟩,?_,⟨rfl,List.Perm.refl _,List.Pairwise.nil,fun r hr=>by simp at hr,fun _=>rfl,Nat.le_refl _⟩,rfl,hb,by simp⟩
 have:=Qny ((w.alloc (R #[V Q 0,J I 0 0,V .u32 0,V Q (-1),V Q (-1),J I 0 0,J I 0 0] 34)).alloc (R #[V Q 0,V Q 0,J I 0 0] 38))
 simpa using this
theorem Qs8 {w:World}{X B:Nat}{a:At}(h:Box w X B a):∀ j,j < 7→∃ v,w.cell? ⟨X,j,I⟩=U v:=fun j hj=>by
 obtain ⟨p1,k1,q1,_⟩:=h.c1
 obtain ⟨p5,k5,q5,_⟩:=h.c5
 obtain ⟨p6,k6,q6,_⟩:=h.c6
 rcases (by omega:j=0∨j=1∨j=2∨j=3∨j=4∨j=5∨j=6) with rfl | rfl | rfl | rfl | rfl | rfl | rfl
 ·exact ⟨_,h.c0⟩
 ·exact ⟨_,q1⟩
 ·exact ⟨_,h.c2⟩
 ·exact ⟨_,h.c3⟩
 ·exact ⟨_,h.c4⟩
 ·exact ⟨_,q5⟩
 ·exact ⟨_,q6⟩
theorem Qsi {w:World}{N:Nat}(h:Qz0 w N):∀ j,j < 3→∃ v,w.cell? ⟨N,j,I⟩=U v:=fun j hj=>by
 rcases (by omega:j=0∨j=1∨j=2) with rfl | rfl | rfl
 ·exact ⟨_,h.c0⟩
 ·exact ⟨_,h.c1⟩
 ·exact ⟨_,h.c2⟩
/-- What is Qdp within Decode is what it answers. -/
theorem Qhl {bs:List Nat}{w w2:World}{T:Array Value}{x:At}{s:Nat}{d:List Nat}{a9:Option Addr}{c9 n:Nat}(h2:T[2]?=U (K (U ⟨w.heap.size,0,I⟩)))(h3:T[3]?=U (K (U ⟨w.heap.size+1,0,I⟩)))
  (hn:d.length=n) (ho:w2.ownsRow (w.heap.size+3) 5 1 (J a9 n c9) n (Qal d)) (hx:Box w2 w.heap.size (w.heap.size+3) x) (hnb:Qz0 w2 (w.heap.size+1)) (hb:Below w.heap.size w w2) (hr:Qbv bs=.inl (3,s,d)) :
  bodyPostD E Tryz.f43 (fun e w'=>Qj0 w w' (Qbv bs) e∧Below w.heap.size w w') (.panic [{ v:=.iface 120 (.agg #[V Q 3,V Q (s:Int),J a9 n c9]),recovered:=false }]) { tmps:=T,defers:=[{ target:=.fn (.func 65) #[K (U ⟨w.heap.size,0,I⟩),K (U ⟨w.heap.size+1,0,I⟩)],args:=#[] }] } w2:=by
 refine leaves_cons (f:=65) (args:=#[K (U ⟨w.heap.size,0,I⟩),K (U ⟨w.heap.size+1,0,I⟩)]) (by simp) (by simp [go_sem]) ?_
 refine (Qpr w.heap.size (w.heap.size+1) (s:Int) a9 n c9 w2 (by omega) (Qs8 hx) hx.fz (Qsi hnb) hnb.fz).mono ?_
 rintro e u' w3 ⟨rfl,rfl,hk,hcx,hcn⟩
 have q0:=hcx 0 _ rfl
 have q1:=hcx 1 _ rfl
 have q2:=hcx 2 _ rfl
 have q3:=hcx 3 _ rfl
 have q4:=hcx 4 _ rfl
 have q5:=hcx 5 _ rfl
 have q6:=hcx 6 _ rfl
 have m0:=hcn 0 _ rfl
 have m1:=hcn 1 _ rfl
 have m2:=hcn 2 _ rfl
 have ho3:w3.ownsRow w.heap.size 5 1 (J a9 n c9) n (Qal d):=Qan (Qdr ho hk (fun k h9=>by rcases h9 with h9 | h9 <;> omega)) (by omega)
 have hb3:Below w.heap.size w w3:=⟨hk.os.trans hb.os,hk.tape.trans hb.tape,hk.output.trans hb.output,Nat.le_trans hb.size hk.size,fun k hk9=>by rw [hk.block k (Nat.lt_of_lt_of_le hk9 hb.size) (fun h9=>by rcases h9 with h9 | h9 <;> omega)]; exact hb.block k hk9⟩
 subst hn
 have HZ:Hid (Qj0 w w3 (Qbv bs) (D (.tuple #[.agg #[V Q 0,J I 0 0,V .u32 0,V Q 0,V Q 0,J I 0 0,J I 0 0],.agg #[V Q 3,V Q (s:Int),J a9 d.length c9]]))∧Below w.heap.size w w3):=⟨by rw [hr]; exact ⟨a9,c9,rfl,ho3⟩,hb3⟩
 simp [Leaves,settle,results,Tryz.results43,go_sem,h2,h3,q0,q1,q2,q3,q4,q5,q6,m0,m1,m2]
 exact HZ.out
/-- What was read is what Decode answers. -/
theorem Qq9 {bs:List Nat}{w w2:World}{T:Array Value}{b:At}{p1:Option Addr}{k1:Nat}{p5:Option Addr}{k5:Nat}{p6:Option Addr}{k6 n1 n5 n6:Nat}(h2:T[2]?=U (K (U ⟨w.heap.size,0,I⟩)))(h3:T[3]?=U (K (U ⟨w.heap.size+1,0,I⟩)))
  (q0:w2.cell? ⟨w.heap.size,0,I⟩=U (V Q b.origin)) (q1:w2.cell? ⟨w.heap.size,1,I⟩=U (J p1 n1 k1)) (q2:w2.cell? ⟨w.heap.size,2,I⟩=U (V .u32 (b.next:Int))) (q3:w2.cell? ⟨w.heap.size,3,I⟩=U (V Q b.med)) (q4:w2.cell? ⟨w.heap.size,4,I⟩=U (V Q b.pref)) (q5:w2.cell? ⟨w.heap.size,5,I⟩=U (J p5 n5 k5)) (q6:w2.cell? ⟨w.heap.size,6,I⟩=U (J p6 n6 k6))
  (m0:w2.cell? ⟨w.heap.size+1,0,I⟩=U (V Q 0)) (m1:w2.cell? ⟨w.heap.size+1,1,I⟩=U (V Q 0)) (m2:w2.cell? ⟨w.heap.size+1,2,I⟩=U (J I 0 0))
  (hz:Qj0 w w2 (Qbv bs) (D (.tuple #[.agg #[V Q b.origin,J p1 n1 k1,V .u32 (b.next:Int),V Q b.med,V Q b.pref,J p5 n5 k5,J p6 n6 k6],.agg #[V Q 0,V Q 0,J I 0 0]]))) (hb:Below w.heap.size w w2) :
  bodyPostD E Tryz.f43 (fun e w'=>Qj0 w w' (Qbv bs) e∧Below w.heap.size w w') .ret { tmps:=T,defers:=[{ target:=.fn (.func 65) #[K (U ⟨w.heap.size,0,I⟩),K (U ⟨w.heap.size+1,0,I⟩)],args:=#[] }] } w2:=by
 refine leaves_cons (f:=65) (args:=#[K (U ⟨w.heap.size,0,I⟩),K (U ⟨w.heap.size+1,0,I⟩)]) (by simp) (by simp [go_sem]) ?_
 refine (Qrs ⟨w.heap.size,0,I⟩ ⟨w.heap.size+1,0,I⟩ w2).mono ?_
 rintro e u' w3 ⟨rfl,rfl,rfl⟩
 have HZ:Hid (Qj0 w w3 (Qbv bs) (D (.tuple #[.agg #[V Q b.origin,J p1 n1 k1,V .u32 (b.next:Int),V Q b.med,V Q b.pref,J p5 n5 k5,J p6 n6 k6],.agg #[V Q 0,V Q 0,J I 0 0]]))∧Below w.heap.size w w3):=⟨hz,hb⟩
 clear hz hb
 simp [Leaves,settle,results,Tryz.results43,go_sem,h2,h3,q0,q1,q2,q3,q4,q5,q6,m0,m1,m2]
 exact HZ.out
theorem Qsh.later {bs:List Nat}{w wq wq':World}{rem:List Nat}{a':Option Addr}{x b:At}{seen:List Nat}(h:Qsh bs w wq rem a' x b seen)(hb:Below wq.heap.size wq wq'):Qsh bs w wq' rem a' x b seen :=
 ⟨h.rd.below hb,h.low,h.cnt,h.box.later hb,h.note.keeps (Qae.of_below hb (fun _=>False)) id,h.stood.keeps (Qae.of_below hb (fun _=>False)) id,h.rel,h.run,h.bel.trans (hb.mono h.bel.size),Nat.le_trans h.sz hb.size⟩
theorem Qm5 {a:At}{fl ty:Nat}{d all:List Nat}{n:Nat×Nat×List Nat}(h:Qix a fl ty d all=.inl n):n.1=3:=by
 unfold Qix at h
 repeat (first | (split at h) | (cases h; rfl) | (cases h))
theorem Qgo (bs seen:List Nat):Qox bs seen=decide (Qbj (bs.getD 0 0)≤bs.length∧Qbj (bs.getD 0 0)+Qbl bs≤bs.length∧bs.getD 1 0 ∉ seen):=rfl
def Qwa (a ad:Option Addr):Prop:=∀ y,ad=U y→∃ z,a=U z∧y.block=z.block
def Qlw (a:Option Addr)(w w':World)(bs:List Nat)(e:Ending):Prop :=
 ∃ a1 k1 a2 k2 a3 k3,e=D (.tuple #[.agg #[V Q (bs.getD 0 0:Int),V Q (bs.getD 1 0:Int),J a1 (Qbl bs) k1,J a2 (Qbj (bs.getD 0 0)+Qbl bs) k2],J a3 (bs.length - (Qbj (bs.getD 0 0)+Qbl bs)) k3])∧BRd w a1 ((bs.drop (Qbj (bs.getD 0 0))).take (Qbl bs))∧Qbl bs≤k1∧BRd w a2 (bs.take (Qbj (bs.getD 0 0)+Qbl bs))∧BRd w a3 (bs.drop (Qbj (bs.getD 0 0)+Qbl bs))∧bs.length - (Qbj (bs.getD 0 0)+Qbl bs)≤k3∧(0 < Qbl bs→Qwa a a1)∧Qwa a a2∧(Qbj (bs.getD 0 0)+Qbl bs < bs.length→Qwa a a3)∧Below w.heap.size w w'
theorem Qw2 (a:Option Addr)(c:Nat)(bs:List Nat)(w:World)(hp:0 < bs.length)(hl:bs.length≤20000)(hc:bs.length≤c)(h:BRd w a bs)(hfit:Qbj (bs.getD 0 0)+Qbl bs≤bs.length) :
  Calls E 66 #[J a bs.length c] w fun e w'=>Qlw a w w' bs e:=by
 obtain ⟨b,o,rfl,hcell,hlt⟩:=h.cells hp
 have inb:∀ (off:Nat) (ad:Option Addr),ad=U ⟨b,off,I⟩→Qwa (U ⟨b,o,I⟩) ad:=fun off ad e y hy=>⟨_,rfl,by rw [e] at hy; cases hy; rfl⟩
 by_cases hx:bs.getD 0 0 / 16 % 2=1
 ·have e1:Qbj (bs.getD 0 0)=4:=by unfold Qbj; rw [if_pos hx]
  have e2:Qbl bs=256 * bs.getD 2 0+bs.getD 3 0:=by unfold Qbl; rw [if_pos hx]
  rw [e1] at hfit
  refine (Qx1 b o bs.length c _ _ _ _ (Qbl bs) w hc hl (hlt 0) (hlt 1) (hlt 2) (hlt 3) e2.symm hx hfit (hcell 0 hp) (hcell 1 (by omega)) (hcell 2 (by omega)) (hcell 3 (by omega))).mono ?_
  rintro e w' ⟨a1,k1,a3,k3,he,q1,q2,q3,q4,hb⟩
  unfold Qlw
  rw [e1]
  exact ⟨a1,k1,_,c,a3,k3,he,h.piece 4 _ hfit a1 q1,q2,h.ahead _ hfit,h.behind _ hfit a3 q3,q4,fun h9=>inb _ _ (q1 h9),inb _ _ rfl,fun h9=>inb _ _ (q3 h9),hb⟩
 ·have e1:Qbj (bs.getD 0 0)=3:=by unfold Qbj; rw [if_neg hx]
  have e2:Qbl bs=bs.getD 2 0:=by unfold Qbl; rw [if_neg hx]
  rw [e1] at hfit
  refine (Qx8 b o bs.length c _ _ (Qbl bs) w hc hl (hlt 0) (hlt 1) (by rw [e2]; exact hlt 2) (by omega) hfit (hcell 0 hp) (hcell 1 (by omega)) (by rw [e2]; exact hcell 2 (by omega))).mono ?_
  rintro e w' ⟨a1,k1,a3,k3,he,q1,q2,q3,q4,hb⟩
  unfold Qlw
  rw [e1]
  exact ⟨a1,k1,_,c,a3,k3,he,h.piece 3 _ hfit a1 q1,q2,h.ahead _ hfit,h.behind _ hfit a3 q3,q4,fun h9=>inb _ _ (q1 h9),inb _ _ rfl,fun h9=>inb _ _ (q3 h9),hb⟩
theorem Qlo {w w':World}{X:Nat}{a:Option Addr}{d:List Nat}(h:BRd w a d)(hlow:∀ y,a=U y→0 < d.length→y.block < X)(hsame:∀ k,k < X→w'.heap[k]?=w.heap[k]?):BRd w' a d:=by
 refine ⟨⟨h.1.1,fun hp=>?_⟩,h.2⟩
 obtain ⟨b,o,e,hc⟩:=h.1.2 hp
 refine ⟨b,o,e,fun i hi=>?_⟩
 rw [World.cell?_of_block (w:=w) (hsame b (hlow _ e hp))]
 exact hc i hi
theorem Qna {w:World}{X B Y:Nat}{a:At}(h:Box w X B a)(hY:X < Y∧Y < B)(j:Nat)(v:Value):Box (w.setCell ⟨Y,j,I⟩ v) X B a:=by
 have e:∀ k,(w.setCell ⟨Y,j,I⟩ v).cell? ⟨X,k,I⟩=w.cell? ⟨X,k,I⟩:=fun k=>World.cell?_setCell_other _ _ _ _ (by intro e9; injection e9 with e2 _ _; omega)
 obtain ⟨p1,k1,g1,o1⟩:=h.c1
 obtain ⟨p5,k5,g5,o5⟩:=h.c5
 obtain ⟨p6,k6,g6,o6⟩:=h.c6
 exact ⟨by rw [e]; exact h.c0,⟨p1,k1,by rw [e]; exact g1,o1.under hY.2 _ _⟩,by rw [e]; exact h.c2,by rw [e]; exact h.c3,by rw [e]; exact h.c4,⟨p5,k5,by rw [e]; exact g5,Qac o5 hY.2 _ _⟩,⟨p6,k6,by rw [e]; exact g6,o6.under hY.2 _ _⟩,fun k=>by rw [World.frozen?_setCell]; exact h.fz k,h.lt⟩
theorem Qki {w w4 w5:World}(h:Below w.heap.size w w4)(hk:Qae (Qa2 w.heap.size (w.heap.size+3)) w4 w5)(hs:w.heap.size+3≤w4.heap.size):Below w.heap.size w w5 :=
 ⟨hk.os.trans h.os,hk.tape.trans h.tape,hk.output.trans h.output,Nat.le_trans h.size hk.size,fun k hk9=>by rw [hk.block k (by omega) (by unfold Qa2; omega)]; exact h.block k hk9⟩
