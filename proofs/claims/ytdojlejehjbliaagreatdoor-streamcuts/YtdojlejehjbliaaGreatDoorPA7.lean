import Derived.Test.YtdojlejehjbliaaGreatDoorPA6
import Derived.Recover
namespace Go.Proofs.YtdojlejehjbliaaGreatDoor
set_option maxHeartbeats 4000000
open _root_.Go.Value renaming slice → I,int → Z
open _root_.Option renaming none → J,some → Q
open _root_.Go.IntKind renaming i64 → V
open _root_.Go.World renaming block_lt_of_cell? → U
open _root_.Go.Obj renaming cells → E
open _root_.Go.Proofs.Tryz renaming prog → D
open _root_.Nat renaming le_refl → T
open _root_.List renaming setIfInBounds_toArray → L
open _root_.Go.Ending renaming returned → M
open Go.RowKit
set_option maxRecDepth 100000
theorem Qwy (a:Option Addr)(l c:Nat)(w:World):(binOp .eql 22 (I a l c) (I J 0 0)).run D w=.ok (.bool a.isNone) w:=by
 simp only [binOp]
 simp [run_equal_slice_nil w 22 5 a l c Tryz.underlying22]
section
attribute [local go_sem ↓] Qey
attribute [local go_sem] Qwy
theorem Qhg (a:Option Addr)(cap:Nat)(d:List Nat)(w:World)(hl:d.length≤100000)(h:BRd w a d) :
  Calls D 50 #[I a d.length cap] w fun e w'=>∃ a9 c9,e=M (I a9 d.length c9)∧w'.ownsRow w.heap.size 5 1 (I a9 d.length c9) d.length (Qal d)∧Below w.heap.size w w':=by
 cases a with
 | none =>
  have h0:d=[]:=by
   cases d with
   | nil=>rfl
   | cons z r=>obtain ⟨b,off,e,_⟩:=h.1.2 (by simp); cases e
  subst h0
  clear h
  go_enter Tryz.func50,Tryz.ntmps50
  go_wp2
  go_ret
  exact ⟨J,0,rfl,Qbm _ _ _ _,Below.refl _ _⟩
 | some ad =>
  have hb2:Below w.heap.size w (w.alloc (E #[] 5)):=(Below.refl _ _).alloc (T _) _
  have hm:(w.alloc (E #[] 5)).ownsRow w.heap.size 5 1 (I (Q ⟨w.heap.size,0,J⟩) 0 0) 0 (Qal []) :=
   ⟨rfl,.inr ⟨w.heap.size,0,_,rfl,T _,by unfold World.alloc; exact Array.getElem?_push_size,T _,by unfold maxLen; omega,rfl,rfl⟩⟩
  obtain ⟨v',w3,hr,ho,hb3⟩:=Qmc (n:=0) (ys:=[]) d (Q ad) cap rfl hm hb2.size (by omega) (h.below hb2)
  obtain ⟨a9,c9,rfl⟩:=Qbs ho
  have hlen:(([]:List Nat)++d).length=d.length:=rfl
  rw [hlen] at hr
  have HO:Hid (w3.ownsRow w.heap.size 5 1 (I a9 d.length c9) d.length (Qal d)):=ho
  have HB:Hid (Below w.heap.size w w3):=hb2.trans hb3
  have HR:=Qaa hr
  clear hr ho hb3 hm hb2 h hlen
  generalize d.length=n at *
  go_enter Tryz.func50,Tryz.ntmps50
  go_wp2_with (refine Qdk _ _ _ _ (I a9 n c9) (w':=w3) (by rfl) (by rfl) (by exact HR.out) ?_)
  go_ret
  exact ⟨a9,c9,rfl,HO.out,HB.out⟩
end
def Qdp (s:Int)(a:Option Addr)(n c:Nat):Ending:=.panicked [{ v:=.iface 120 (.agg #[Z V 3,Z V s,I a n c]),recovered:=false }]
def Qbn (w w':World)(s:Int)(d:List Nat)(e:Ending):Prop:=∃ a9 c9,e=Qdp s a9 d.length c9∧w'.ownsRow w.heap.size 5 1 (I a9 d.length c9) d.length (Qal d)∧Below w.heap.size w w'
theorem Qj6 (s:Int)(a:Option Addr)(cap:Nat)(d:List Nat)(w:World)(hl:d.length≤100000)(h:BRd w a d) :
  Calls D 67 #[Z V s,I a d.length cap] w fun e w'=>Qbn w w' s d e:=by
 have K:=Qaa (Qhg a cap d w hl h)
 clear h
 unfold Qbn
 generalize d.length=n at *
 go_enter Tryz.func67,Tryz.ntmps67
 go_wp2_with fail
 refine K.out.mono ?_
 rintro e w1 ⟨a9,c9,rfl,ho,hb⟩
 go_wp2
 exact ⟨rfl,a9,c9,rfl,ho,hb⟩
def Qcb (fl ty:Int)(a1:Option Addr)(n1 c1:Nat)(a2:Option Addr)(n2 c2:Nat):Value:=.agg #[Z V fl,Z V ty,I a1 n1 c1,I a2 n2 c2]
theorem Qk3 (fl ty s:Int)(a1:Option Addr)(n1 c1:Nat)(a2:Option Addr)(n2 c2:Nat)(w:World) :
  Calls D 94 #[Qcb fl ty a1 n1 c1 a2 n2 c2,.bool true,Z V s] w fun e w'=>e=M (.tuple #[])∧Below w.heap.size w w':=by
 unfold Qcb
 go_enter Tryz.func94,Tryz.ntmps94
 go_wp2
 go_end0
 exact ⟨rfl,(Below.refl _ _).alloc (T _) _⟩
theorem Qbn.from {w0 w w':World}{s:Int}{d:List Nat}{e:Ending} (h:Qbn w w' s d e) (hb:Below w0.heap.size w0 w):Qbn w0 w' s d e:=by
 obtain ⟨a9,c9,he,ho,hb2⟩:=h
 exact ⟨a9,c9,he,Qan ho hb.size,hb.trans (hb2.mono hb.size)⟩
theorem Qhs (fl ty s:Int)(a1:Option Addr)(n1 c1:Nat)(a2:Option Addr)(c2:Nat)(d:List Nat)(w:World)(hl:d.length≤100000)(h:BRd w a2 d) :
  Calls D 94 #[Qcb fl ty a1 n1 c1 a2 d.length c2,.bool false,Z V s] w fun e w'=>Qbn w w' s d e:=by
 have hb:∀ o,Below w.heap.size w (w.alloc o):=fun o=>(Below.refl _ _).alloc (T _) _
 have K:Hid (∀ o,Calls D 67 #[Z V s,I a2 d.length c2] (w.alloc o) fun e w'=>Qbn w w' s d e):=fun o=>(Qj6 s a2 c2 d (w.alloc o) hl (h.below (hb o))).mono fun e w' h9=>h9.from (hb o)
 clear h hb
 unfold Qcb
 unfold Qbn at K ⊢
 unfold Qdp at K ⊢
 generalize d.length=n at *
 go_enter Tryz.func94,Tryz.ntmps94
 go_wp2_with fail
 refine (K.out _).mono ?_
 rintro e w1 ⟨a9,c9,rfl,ho,hb⟩
 go_wp2
 exact ⟨rfl,a9,c9,rfl,ho,hb⟩
theorem Fr.lay9m {t0 t1 t2 t3 t4 t5 t6 t7 t8:Nat}{b a:Act} (h:Fr [t0,t1,t2,t3,t4,t5,t6,t7,t8] b a) (hsz:∀ s∈[t0,t1,t2,t3,t4,t5,t6,t7,t8],s < b.tmps.size) {v7 v8:Value} (h7:a.tmps[t7]?=Q v7) (h8:a.tmps[t8]?=Q v8) :
  ∃ x0 x1 x2 x3 x4 x5 x6,a=((((((((b.put (Q t0) x0).put (Q t1) x1).put (Q t2) x2).put (Q t3) x3).put (Q t4) x4).put (Q t5) x5).put (Q t6) x6).put (Q t7) v7).put (Q t8) v8:=by
 have get:∀ t,t∈[t0,t1,t2,t3,t4,t5,t6,t7,t8]→∃ x,a.tmps[t]?=Q x:=fun t ht=>⟨_,Array.getElem?_eq_getElem (by rw [h.size]; exact hsz t ht)⟩
 obtain ⟨x0,h0⟩:=get t0 (by simp)
 obtain ⟨x1,h1⟩:=get t1 (by simp)
 obtain ⟨x2,h2⟩:=get t2 (by simp)
 obtain ⟨x3,h3⟩:=get t3 (by simp)
 obtain ⟨x4,h4⟩:=get t4 (by simp)
 obtain ⟨x5,h5⟩:=get t5 (by simp)
 obtain ⟨x6,h6⟩:=get t6 (by simp)
 refine ⟨x0,x1,x2,x3,x4,x5,x6,Fr.eq (b:=b) (l:=[(t0,x0),(t1,x1),(t2,x2),(t3,x3),(t4,x4),(t5,x5),(t6,x6),(t7,v7),(t8,v8)]) (c:=b) rfl h.defers h.size h.out fun p hp=>?_⟩
 simp only [List.mem_cons,List.not_mem_nil,or_false] at hp
 rcases hp with rfl | rfl | rfl | rfl | rfl | rfl | rfl | rfl | rfl <;> assumption
section
variable {dst:Option Tmp}{ty:TypeId}{pos:String}{after:Array Edge}{ρ:Operand→Value}
theorem Qeb {w:World}{x:Operand}{g:Nat}{C:Array Value} (hC:MC C) (hx:ρ x=.pointer (Q ⟨g,0,J⟩)) (h:w.rangeAt g 0 C.toList):(execOp ρ { dst:=dst,op:=.load 40 x,type:=ty,pos:=pos,after:=after,guard:=J }).run D w=.ok (.value (.agg C)) w:=by
 unfold execOp
 simp only [hx,Sem.run_bind,Qgc h hC,Result.andThen_ok,Sem.run_pure]
theorem Qlv {w:World}{x:Operand}{g:Nat}{c s v:Value} (hx:ρ x=.pointer (Q ⟨g,0,J⟩)) (h:w.rangeAt g 0 [c,s,v]):(execOp ρ { dst:=dst,op:=.load 38 x,type:=ty,pos:=pos,after:=after,guard:=J }).run D w=.ok (.value (.agg #[c,s,v])) w:=by
 have hr:=run_loadAt_mid (P:=D) w g 0 38 [c,s,v] _ h Tryz.underlying38 rfl infoN
 unfold execOp
 simp only [hx,Sem.run_bind,hr,Result.andThen_ok,Sem.run_pure]
end
structure D6 (w W:World) (X Y:Nat) (C:Array Value) (v:Value):Prop where
 bM:W.heap[w.heap.size]?=Q (E zM 40 (0,0))
 bN:W.heap[w.heap.size+1]?=Q (E #[Z V 0,Z V 0,I J 0 0] 38 (0,0))
 bX:W.heap[X]?=Q (E #[Z V 0,Z V 0,v] 38 (0,0))
 bY:W.heap[Y]?=Q (E C 40 (0,0))
 hX:w.heap.size+2≤X
 hY:X < Y
 hs:Y < W.heap.size
 bel:Below w.heap.size w W
structure H6 (w w1 W:World) (g o:Nat) (kd:Int) (v:Value):Prop where
 bM:W.heap[w.heap.size]?=Q (E zM 40 (0,0))
 bN:W.heap[w.heap.size+1]?=Q (E #[Z V 0,Z V 0,I J 0 0] 38 (0,0))
 bX:W.heap[w1.heap.size]?=Q (E #[Z V 0,Z V 0,v] 38 (0,0))
 bel:Below w.heap.size w W
 sz:W.heap.size=w1.heap.size+1
 le:w.heap.size+1+1≤w1.heap.size
 c18:W.cell? ⟨g,o+18,J⟩=Q (Z .u8 kd)
theorem Qen {w w1:World}{g o:Nat}{kd:Int} (a:Option Addr) (n c:Nat) (hb:Below (w.heap.size+2) (dW w) w1) (zg:g < w.heap.size) (c18:w.cell? ⟨g,o+18,J⟩=Q (Z .u8 kd)):H6 w w1 (w1.alloc (E #[Z V 0,Z V 0,I a n c] 38)) g o kd (I a n c):=by
 have hs:w.heap.size+1+1≤w1.heap.size:=by have:=hb.size; rw [Qdm] at this; exact this
 have hbw:Below w.heap.size w w1:=(Qdy w).trans (hb.mono (by omega))
 have hbw2:Below w.heap.size w (w1.alloc (E #[Z V 0,Z V 0,I a n c] 38)):=hbw.alloc (by omega) _
 refine ⟨?_,?_,heap_alloc_new w1 _,hbw2,by simp,hs,?_⟩
 ·rw [Qc5 (by omega),hb.block _ (by omega)]; exact Qyh w
 ·rw [Qc5 (by omega),hb.block _ (by omega)]; exact Qzc w
 ·rw [hbw2.cell (p:=⟨g,o+18,J⟩) zg]; exact c18
theorem H6.d6 {w w1 W W6:World}{g o:Nat}{kd:Int}{v:Value}{C:Array Value} (h:H6 w w1 W g o kd v) (bY:W6.heap[W.heap.size]?=Q (E C 40 (0,0))) (hb:Below W.heap.size W W6):D6 w W6 w1.heap.size W.heap.size C v:=by
 have z:=h.sz
 have z2:=h.le
 refine ⟨?_,?_,?_,bY,by omega,by omega,(Array.getElem?_eq_some_iff.1 bY).1,h.bel.trans (hb.mono (by omega))⟩
 ·rw [hb.block _ (by omega)]; exact h.bM
 ·rw [hb.block _ (by omega)]; exact h.bN
 ·rw [hb.block _ (by omega)]; exact h.bX
section
attribute [local go_sem ↓] Qbe Qba keptM_alloc Qbb
theorem Qnp (g o cp:Nat)(bs:List Nat)(w:World)(hn:bs.length=19)(hcap:19≤cp)(h:BRd w (Q ⟨g,o,J⟩) bs)(hS:Qdb w)(hr:Qa6 bs=(19,0,0,[]))(hk4:bs.getD 18 0=4) :
  Calls D 7 #[I (Q ⟨g,o,J⟩) 19 cp] w fun e w'=>∃ a9 c9,e=M (.tuple #[.agg (Qbt 4 0 0 (I J 0 0)),.agg #[Z V 0,Z V 0,I a9 0 c9]])∧Below w.heap.size w w':=by
 have KH:=Qes (Q ⟨g,o,J⟩) cp bs w (by omega) (by omega) h hS _ hr
 rw [hn] at KH
 have HK:=Qaa KH
 obtain ⟨g',o',e9,hc⟩:=h.1.2 (by omega)
 cases e9
 have c18:w.cell? ⟨g,o+18,J⟩=Q (Z .u8 4):=by rw [hc 18 (by omega)]; show Q (Value.int .u8 ((bs.getD 18 0:Nat):Int))=_; rw [hk4]; rfl
 have zg:=U w _ c18
 simp only at zg
 clear KH h hS hcap hr hn hk4 hc
 simp only at HK
 go_enter Tryz.func7,Tryz.ntmps7
 go_wp2_with (refine Qah _ (Qav w) ?_)
 show Calls D 19 #[I (Q ⟨g,o,J⟩) 19 cp] (dW w) _
 with_reducible refine HK.out.mono ?_
 rintro e w1 ⟨a9,c9,rfl,HO,HB⟩
 have HH:=Qaa (Qen a9 0 c9 HB.out zg c18)
 go_wp2_with fail
 generalize (w1.alloc (E #[Z V 0,Z V 0,I a9 0 c9] 38))=W at *
 refine Qgn _ W g o 19 cp 4 (opi rfl) (opi rfl) (opi rfl) (opi rfl) (opi rfl) (opi rfl) (opi rfl) (opi rfl) (opi rfl) (opi rfl) rfl (by kernel_rfl)
  (by kernel_rfl) (by kernel_rfl) (by kernel_rfl) (by kernel_rfl) (by kernel_rfl) (by kernel_rfl) (by kernel_rfl) (by kernel_rfl) (by kernel_rfl) (by kernel_rfl) (by kernel_rfl)
  rfl rfl (by omega) (by omega) (by omega) HH.out.c18 ?_
 intro a W6 hfr h6 h7 bY hb6
 generalize Value.slice (if cp=19 then Q ⟨g,o,J⟩ else Q ⟨g,o+19,J⟩) (19 - 19) (cp - 19)=v7 at h7
 obtain ⟨x0,x1,x2,x3,x4,x5,x6,rfl⟩:=hfr.lay9m (by exact (by decide:∀ s∈[29,30,31,32,33,34,35,6,7],s < 75)) h6 h7
 have HD:Hid (D6 w W6 w1.heap.size W.heap.size (Qbt 4 0 0 (I J 0 0)) (I a9 0 c9)):=HH.out.d6 bY hb6
 have hsz:=HH.out.le
 have y0:W6.cell? ⟨W.heap.size,0,J⟩=Q (Z V 4):=Qai HD.out.bY 0 _ rfl
 have x00:W6.cell? ⟨w1.heap.size,0,J⟩=Q (Z V 0):=Qai HD.out.bX 0 _ rfl
 have zY:W.heap.size < W6.heap.size:=HD.out.hs
 have zX:w1.heap.size < W6.heap.size:=by have:=HD.out.hY; omega
 clear hfr h6 h7 bY hb6
 simp only [Act.put,L,List.set_cons_zero,List.set_cons_succ]
 go_wp2_with fail
 refine Qcp _ W6 w.heap.size (w.heap.size+1) 40 zM (Qbt 4 0 0 (I J 0 0)) #[Z V 0,Z V 0,I J 0 0] #[Z V 0,Z V 0,I a9 0 c9] 73 74 _ _ (opi rfl) (opi rfl) (opi rfl) (opi rfl) rfl (by kernel_rfl) (by kernel_rfl) (by kernel_rfl) (by kernel_rfl) (by kernel_rfl) (by kernel_rfl) (by kernel_rfl) (by kernel_rfl)
  (fun ty po af W' hW=>Qeb (MC.msg 4 0 0 J 0 0) (g:=W.heap.size) (by rfl) (Qai (by
   rw [hW.block _ (by omega) (by have:=HD.out.hX; have:=HD.out.hY; omega)]; exact HD.out.bY)))
  (fun ty po af W' hW=>Qbw (g:=w1.heap.size) (by rfl) (by
   rw [hW.block _ (by omega) (by have:=HD.out.hX; omega)]; exact HD.out.bX)) rfl rfl (show 73 < 75 by decide) (show 74 < 75 by decide) (by decide) HD.out.bM HD.out.bN (by omega) rfl rfl infoM infoN (MC.msg 4 0 0 J 0 0).2 (by simp [Value.oneCell']) ?_
 simp only [Act.put,L,List.set_cons_zero,List.set_cons_succ]
 have HRM:Hid (((({ W6 with drawn:=W6.drawn+1 } : World).setCells w.heap.size 0 (Qbt 4 0 0 (I J 0 0)).toList).setCells (w.heap.size+1) 0 (#[Value.int V 0,Z V 0,I a9 0 c9]:Array Value).toList).rangeAt w.heap.size 0 (Qbt 4 0 0 (I J 0 0)).toList):=Qb7 (Qb2 (w:={ W6 with drawn:=W6.drawn+1 }) HD.out.bM (T _)) (by omega)
 have HRN:Hid (((({ W6 with drawn:=W6.drawn+1 } : World).setCells w.heap.size 0 (Qbt 4 0 0 (I J 0 0)).toList).setCells (w.heap.size+1) 0 (#[Value.int V 0,Z V 0,I a9 0 c9]:Array Value).toList).rangeAt (w.heap.size+1) 0 (#[Value.int V 0,Z V 0,I a9 0 c9]:Array Value).toList) :=
  Qb2 (C0:=#[Z V 0,Z V 0,I J 0 0]) (t:=38) (by rw [Qax (by omega)]; exact HD.out.bN) (by simp)
 have HKe:Hid (Qae (fun x=>x=w.heap.size∨x=w.heap.size+1) W6 ((({ W6 with drawn:=W6.drawn+1 } : World).setCells w.heap.size 0 (Qbt 4 0 0 (I J 0 0)).toList).setCells (w.heap.size+1) 0 (#[Value.int V 0,Z V 0,I a9 0 c9]:Array Value).toList)) :=
  (Qae.setCells (w:=W6) (w1:={ W6 with drawn:=W6.drawn+1 }) ⟨rfl,rfl,rfl,T _,fun _ _ _=>rfl⟩ _ 0 _ (.inl (.inl rfl))).setCells _ 0 _ (.inl (.inr rfl))
 generalize ((({ W6 with drawn:=W6.drawn+1 } : World).setCells w.heap.size 0 (Qbt 4 0 0 (I J 0 0)).toList).setCells (w.heap.size+1) 0 (#[Value.int V 0,Z V 0,I a9 0 c9]:Array Value).toList)=W9 at *
 go_wp2_with fail
 refine bodyPost_ret (v:=.tuple #[.agg (Qbt 4 0 0 (I J 0 0)),.agg #[Z V 0,Z V 0,I a9 0 c9]]) (Qar Tryz.results7 _ W9 w.heap.size (w.heap.size+1) (Qbt 4 0 0 (I J 0 0)) _ rfl rfl HRM.out HRN.out Tryz.underlying40 rfl infoM Tryz.underlying38 rfl infoN) rfl ⟨⟨a9,c9,rfl⟩,?_⟩
 exact HD.out.bel.trans (HKe.out.below _ (by have:=HD.out.bel.size; omega) (fun x e=>by omega))
end
def Qjb (g o n c z:Nat):Value:=if n=z then I J 0 0 else I (Q ⟨g,o+z,J⟩) (n - z) (c - z)
theorem Qil (w:World)(S:Nat)(u:Value):Qae (fun x=>x=S) w (w.setCell ⟨S,0,J⟩ u):=(Qae.refl _ w).setCell _ _ _ (.inl rfl)
theorem Qu3 (w:World)(S g o n c z:Nat)(k s:Int)(d:Value)(h:Qc6 w S (I (Q ⟨g,o,J⟩) n c) k s d)(hz:z≤n)(hc:n≤c) :
  Calls D 32 #[.pointer (Q ⟨S,0,J⟩),Z V (z:Int)] w fun e w'=>e=M (.tuple #[])∧Qc6 w' S (Qjb g o n c z) k s d∧Qae (fun x=>x=S) w w':=by
 have zS:S < w.heap.size:=U w _ h.c0
 have c0:=h.c0
 have f0:=h.fz 0 (by omega)
 have HS:=Qaa h
 clear h
 have i0:(0:Int)≤(z:Int):=Int.natCast_nonneg _
 by_cases e:n=z
 ·subst e
  have HV:Hid (Qjb g o n c n=I J 0 0):=by show _=_; unfold Qjb; rw [if_pos rfl]
  rw [HV.out]
  by_cases ec:c=n
  ·subst ec
   have HS2:=Qaa ((HS.out.wait (I (Q ⟨g,o,J⟩) 0 0)).wait (I J 0 0))
   have HK2:Hid (Qae (fun x=>x=S) w ((w.setCell ⟨S,0,J⟩ (I (Q ⟨g,o,J⟩) 0 0)).setCell ⟨S,0,J⟩ (I J 0 0))):=(Qil w S _).setCell _ _ _ (.inl rfl)
   have d0:=(HS.out.wait (I (Q ⟨g,o,J⟩) 0 0)).c0
   have g0:=(HS.out.wait (I (Q ⟨g,o,J⟩) 0 0)).fz 0 (by omega)
   have zS2:S < (w.setCell ⟨S,0,J⟩ (I (Q ⟨g,o,J⟩) 0 0)).heap.size:=U _ _ d0
   go_enter Tryz.func32,Tryz.ntmps32
   go_wp2
   exact bodyPost_end (results_none rfl _ _ _) rfl ⟨rfl,HS2.out,HK2.out⟩
  ·have hlc:n < c:=by omega
   have HS2:=Qaa ((HS.out.wait (I (Q ⟨g,o+n,J⟩) 0 (c - n))).wait (I J 0 0))
   have HK2:Hid (Qae (fun x=>x=S) w ((w.setCell ⟨S,0,J⟩ (I (Q ⟨g,o+n,J⟩) 0 (c - n))).setCell ⟨S,0,J⟩ (I J 0 0))):=(Qil w S _).setCell _ _ _ (.inl rfl)
   have d0:=(HS.out.wait (I (Q ⟨g,o+n,J⟩) 0 (c - n))).c0
   have g0:=(HS.out.wait (I (Q ⟨g,o+n,J⟩) 0 (c - n))).fz 0 (by omega)
   have zS2:S < (w.setCell ⟨S,0,J⟩ (I (Q ⟨g,o+n,J⟩) 0 (c - n))).heap.size:=U _ _ d0
   go_enter Tryz.func32,Tryz.ntmps32
   go_wp2
   exact bodyPost_end (results_none rfl _ _ _) rfl ⟨rfl,HS2.out,HK2.out⟩
 ·have HV:Hid (Qjb g o n c z=I (Q ⟨g,o+z,J⟩) (n - z) (c - z)):=by show _=_; unfold Qjb; rw [if_neg e]
  rw [HV.out]
  have ec:¬ c=z:=by omega
  have HS2:=Qaa (HS.out.wait (I (Q ⟨g,o+z,J⟩) (n - z) (c - z)))
  have HK2:=Qaa (Qil w S (I (Q ⟨g,o+z,J⟩) (n - z) (c - z)))
  have d0:=(HS.out.wait (I (Q ⟨g,o+z,J⟩) (n - z) (c - z))).c0
  have zS2:S < (w.setCell ⟨S,0,J⟩ (I (Q ⟨g,o+z,J⟩) (n - z) (c - z))).heap.size:=U _ _ d0
  have e0:(((n - z:Nat):Int) == 0)=false:=by simp; omega
  go_enter Tryz.func32,Tryz.ntmps32
  go_wp2
  exact bodyPost_end (results_none rfl _ _ _) rfl ⟨rfl,HS2.out,HK2.out⟩
theorem Qqm (k q:Int)(a:Option Addr)(nn c:Nat)(nd:List Nat)(w:World)(hn:nd.length=nn)(hl:nn≤6000)(h:BRd w a nd) :
  Calls D 31 #[.agg #[Z V k,Z V q,I a nn c]] w fun e w'=>∃ a9 c9,e=M (.agg #[Z V k,Z V q,I a9 nn c9])∧w'.ownsRow w.heap.size 5 1 (I a9 nn c9) nn (Qal nd)∧Below w.heap.size w w':=by
 have hba:Below w.heap.size w ((w.alloc (E #[Z V k,Z V q,I a nn c] 38)).alloc (E #[Z V 0,Z V 0,I J 0 0] 38)):=((Below.refl _ _).alloc (T _) _).alloc (by simp) _
 have K:=Qhg a c nd ((w.alloc (E #[Z V k,Z V q,I a nn c] 38)).alloc (E #[Z V 0,Z V 0,I J 0 0] 38)) (by omega) (h.below hba)
 rw [hn] at K
 have HK:=Qaa K
 have HBA:=Qaa hba
 clear K hba h
 go_enter Tryz.func31,Tryz.ntmps31
 go_wp2_with fail
 refine HK.out.mono ?_
 rintro e w1 ⟨a9,c9,rfl,ho,hb⟩
 have r0:w1.cell? ⟨w.heap.size,0,J⟩=Q (Z V k):=by rw [hb.cell (p:=⟨w.heap.size,0,J⟩) (by simp <;> omega)]; simp [go_sem]
 have r1:w1.cell? ⟨w.heap.size,1,J⟩=Q (Z V q):=by rw [hb.cell (p:=⟨w.heap.size,1,J⟩) (by simp <;> omega)]; simp [go_sem]
 have r2:w1.cell? ⟨w.heap.size,2,J⟩=Q (I a nn c):=by rw [hb.cell (p:=⟨w.heap.size,2,J⟩) (by simp <;> omega)]; simp [go_sem]
 have g2:w1.frozen? ⟨w.heap.size,2,J⟩=false:=by rw [hb.frozen (p:=⟨w.heap.size,2,J⟩) (by simp <;> omega)]; simp [go_sem]
 have t0:w1.cell? ⟨w.heap.size+1,0,J⟩=Q (Z V 0):=by rw [hb.cell (p:=⟨w.heap.size+1,0,J⟩) (by simp <;> omega)]; simp [go_sem]
 have t1:w1.cell? ⟨w.heap.size+1,1,J⟩=Q (Z V 0):=by rw [hb.cell (p:=⟨w.heap.size+1,1,J⟩) (by simp <;> omega)]; simp [go_sem]
 have t2:w1.cell? ⟨w.heap.size+1,2,J⟩=Q (I J 0 0):=by rw [hb.cell (p:=⟨w.heap.size+1,2,J⟩) (by simp <;> omega)]; simp [go_sem]
 have u0:w1.frozen? ⟨w.heap.size+1,0,J⟩=false:=by rw [hb.frozen (p:=⟨w.heap.size+1,0,J⟩) (by simp <;> omega)]; simp [go_sem]
 have u1:w1.frozen? ⟨w.heap.size+1,1,J⟩=false:=by rw [hb.frozen (p:=⟨w.heap.size+1,1,J⟩) (by simp <;> omega)]; simp [go_sem]
 have u2:w1.frozen? ⟨w.heap.size+1,2,J⟩=false:=by rw [hb.frozen (p:=⟨w.heap.size+1,2,J⟩) (by simp <;> omega)]; simp [go_sem]
 have z1:w.heap.size+1 < w1.heap.size:=U w1 _ t0
 have z0:w.heap.size < w1.heap.size:=by omega
 have HB1:Hid (Below w.heap.size w w1):=HBA.out.trans (hb.mono HBA.out.size)
 have HO:Hid (w1.ownsRow (w.heap.size+2) 5 1 (I a9 nn c9) nn (Qal nd)):=Qa0 ho (by simp)
 clear ho hb
 go_wp2
 refine bodyPost_ret (v:=.agg #[Z V k,Z V q,I a9 nn c9]) (by simp [results,Tryz.results31,go_sem,t0,t1,t2]) rfl ⟨_,_,rfl,?_,?_⟩
 ·exact Qa0 (Qac (Qac (Qac (Qac HO.out (by omega) 2 _) (by omega) 0 _) (by omega) 1 _) (by omega) 2 _) (by omega)
 ·exact (((HB1.out.setCell (by simp) _).setCell (by simp) _).setCell (by simp) _).setCell (by simp) _
theorem Qc6.note {w:World}{S:Nat}{v d:Value}{k s:Int} (h:Qc6 w S v k s d) (k' s':Int) (d':Value):Qc6 (((w.setCell ⟨S,1,J⟩ (Z V k')).setCell ⟨S,2,J⟩ (Z V s')).setCell ⟨S,3,J⟩ d') S v k' s' d':=by
 have ins:=World.cell?_setCells_in S [Z V k',Z V s',d'] 1 w (fun q hq=>by
  have:q=0∨q=1∨q=2:=by simp at hq; omega
  rcases this with rfl | rfl | rfl
  ·rw [h.c1]; rfl
  ·rw [h.c2]; rfl
  ·rw [h.c3]; rfl)
 have out:=World.cell?_setCells_out S [Z V k',Z V s',d'] 1 w ⟨S,0,J⟩ (fun _ _=>by simp)
 have i0:=ins 0 (by simp)
 have i1:=ins 1 (by simp)
 have i2:=ins 2 (by simp)
 simp only [World.setCells] at i0 i1 i2 out
 exact ⟨by rw [out]; exact h.c0,i0,i1,i2,fun o ho=>by simp; exact h.fz o ho⟩
theorem Qc6.keep {F:Nat→Prop}{w w':World}{S:Nat}{v d:Value}{k s:Int} (h:Qc6 w S v k s d) (hk:Qae F w w') (hF:¬ F S):Qc6 w' S v k s d:=h.of_block (hk.block _ (U w _ h.c0) hF)
theorem Qeq {w w':World}{g:Nat}{cs:List Value} (hr:w.rangeAt g 0 cs) (hb:w'.heap[g]?=w.heap[g]?):w'.rangeAt g 0 cs:=fun j v hv=>by
 rw [World.cell?_of_block (w:=w) (by exact hb)]
 exact hr j v hv
def Jb6 (R:Array Value→Int→Int→Value→List Nat→Nat→World→Prop)(W:World)(e:Ending)(W':World):Prop :=
 ∃ C k q na nn nc nd,e=M (.tuple #[.agg C,.agg #[Z V k,Z V q,I na nn nc]])∧Hid (MC C)∧Hid (List.length (α:=Nat) nd=nn∧nn≤6000∧(∀ x∈nd,x < 256)∧(nd≠[]→W'.ownsRow W.heap.size 5 1 (I na nn nc) nn (Qal nd)))∧Hid (R C k q (I na nn nc) nd W.heap.size W')∧Hid (Below W.heap.size W W')
section
attribute [local go_sem ↓] Qbe Qba keptM_alloc Qbb
theorem Qk1 (R:Array Value→Int→Int→Value→List Nat→Nat→World→Prop)(hRk:∀ C k q v nd B W1 W2 F,Qae F W1 W2→(∀ x,B≤x→¬ F x)→R C k q v nd B W1→R C k q v nd B W2)
  (S g o n c z:Nat) (bs:List Nat) (s:Int) (d:Value) (w:World) (h:Qc6 w S (I (Q ⟨g,o,J⟩) n c) 0 s d) (hn:bs.length=n) (hl:n≤100000) (hcap:n≤c) (hb:BRd w (Q ⟨g,o,J⟩) bs) (hS:Qdb w) (hr:Qa6 bs=(z,0,0,[])) (hz0:z≠0) (hzn:z≤n)
  (KD:∀ W,Below w.heap.size w W→Calls D 7 #[I (Q ⟨g,o,J⟩) z c] W (Jb6 R W)) :
  Calls D 14 #[.pointer (Q ⟨S,0,J⟩)] w fun e w'=>∃ C k q v,e=M (.tuple #[.agg C,.agg #[Z V k,Z V q,v],.bool true])∧Hid (∃ nd,(∃ B,w.heap.size≤B∧R C k q v nd B w')∧∃ a9,(∃ c9,Qc6 w' S (Qjb g o n c z) k q (I a9 nd.length c9))∧BRd w' a9 nd)∧Qae (fun x=>x=S) w w':=by
 have KH:=Qes (Q ⟨g,o,J⟩) c bs w (by omega) (by omega) hb hS _ hr
 rw [hn] at KH
 have HK:=Qaa KH
 simp only [List.length_nil] at HK
 have HKD:=Qaa KD
 have HSt:=Qaa h
 have HRk:=Qaa hRk
 have c0:=h.c0
 have c1:=h.c1
 have zS:S < w.heap.size:=U w _ c0
 clear KH h hb hS hr KD hRk
 have ez:((z:Int) == 0)=false:=by simp; omega
 have gz:decide (n < z)=false:=decide_eq_false (by omega)
 have hz1:(0:Int)≤(z:Int):=Int.natCast_nonneg _
 have hz2:z≤c:=by omega
 go_enter Tryz.func14,Tryz.ntmps14
 go_wp2_with (refine Qah _ (Qav w) ?_)
 show Calls D 19 #[I (Q ⟨g,o,J⟩) n c] (dW w) _
 with_reducible refine HK.out.mono ?_
 rintro e w1 ⟨a8,c8,rfl,HO,HB⟩
 have hsz:w.heap.size+1+1≤w1.heap.size:=by have:=HB.out.size; rw [Qdm] at this; exact this
 have HBW:Hid (Below w.heap.size w w1):=(Qdy w).trans (HB.out.mono (by omega))
 have HBW2:Hid (Below w.heap.size w (w1.alloc (E #[Z V 0,Z V 0,I a8 0 c8] 38))):=HBW.out.alloc (by omega) _
 have HM:Hid ((w1.alloc (E #[Z V 0,Z V 0,I a8 0 c8] 38)).heap[w.heap.size]?=Q (E zM 40 (0,0))):=by show _=_; rw [Qc5 (by omega),HB.out.block _ (by omega)]; exact Qyh w
 have HN:Hid ((w1.alloc (E #[Z V 0,Z V 0,I a8 0 c8] 38)).heap[w.heap.size+1]?=Q (E #[Z V 0,Z V 0,I J 0 0] 38 (0,0))):=by show _=_; rw [Qc5 (by omega),HB.out.block _ (by omega)]; exact Qzc w
 have HX:Hid ((w1.alloc (E #[Z V 0,Z V 0,I a8 0 c8] 38)).heap[w1.heap.size]?=Q (E #[Z V 0,Z V 0,I a8 0 c8] 38 (0,0))):=heap_alloc_new w1 _
 have d0:w1.cell? ⟨S,0,J⟩=Q (I (Q ⟨g,o,J⟩) n c):=by rw [HBW.out.cell (p:=⟨S,0,J⟩) zS]; exact c0
 have zS1:S < w1.heap.size:=by omega
 have HZ:Hid ((w1.alloc (E #[Z V 0,Z V 0,I a8 0 c8] 38)).heap.size=w1.heap.size+1):=by show _=_; simp
 go_wp2_with fail
 generalize (w1.alloc (E #[Z V 0,Z V 0,I a8 0 c8] 38))=W at *
 refine (HKD.out W HBW2.out).mono ?_
 rintro e W1 ⟨C,k,q,na,nn,nc,nd,rfl,HC,HND,HR,HB1⟩
 have hzW:=HZ.out
 have hsW:W.heap.size≤W1.heap.size:=HB1.out.size
 have bX1:W1.heap[w1.heap.size]?=Q (E #[Z V 0,Z V 0,I a8 0 c8] 38 (0,0)):=by rw [HB1.out.block _ (by omega)]; exact HX.out
 have hs1:Qc6 (W1.alloc (E zM 40)) S (I (Q ⟨g,o,J⟩) n c) 0 s d:=((HSt.out.below HBW2.out).below HB1.out).below ((Below.refl _ _).alloc (T _) _)
 obtain ⟨W2,hst,hX2,hRY,hRX,hK3⟩:=Qjm (gM:=W1.heap.size) (gN:=w1.heap.size) (heap_alloc_new W1 (E zM 40)) rfl (by rw [Qc5 (by omega)]; exact bX1) (by omega) HC.out (Z V k) (Z V q) (I na nn nc)
 obtain ⟨⟨n0,n1,n2⟩,f0,f1,f2⟩:=Qq0 hX2
 have HST:=Qaa hst
 have hs3:=hs1.keep hK3 (by omega)
 have hzX:w1.heap.size < W2.heap.size:=(Array.getElem?_eq_some_iff.1 hX2).1
 have HS3:=Qaa hs3
 have HRY:=Qaa hRY
 have HRX:=Qaa hRX
 have HK3:=Qaa hK3
 clear hst hRY hRX hK3 hs3 hs1 hX2
 go_wp2_with (first | (refine Qah _ (Qav W1) ?_) | (refine Qam _ _ (.pointer (Q ⟨W1.heap.size,0,J⟩)) (.agg C) (by rfl) (by rfl) HST.out ?_))
 have hz3:W1.heap.size+1≤(((W2.setCell ⟨w1.heap.size,0,J⟩ (Z V k)).setCell ⟨w1.heap.size,1,J⟩ (Z V q)).setCell ⟨w1.heap.size,2,J⟩ (I na nn nc)).heap.size:=by have:=HK3.out.size; simp at this ⊢; omega
 generalize (((W2.setCell ⟨w1.heap.size,0,J⟩ (Z V k)).setCell ⟨w1.heap.size,1,J⟩ (Z V q)).setCell ⟨w1.heap.size,2,J⟩ (I na nn nc))=W3 at *
 clear n0 n1 n2 f0 f1 f2 hzX HST
 refine (Qu3 W3 S g o n c z 0 s d HS3.out hzn hcap).mono ?_
 rintro e W4 ⟨rfl,hs4,hk4⟩
 have hRX4:=Qeq HRX.out (hk4.block w1.heap.size (by omega) (by omega))
 have hRY4:=Qeq HRY.out (hk4.block W1.heap.size (by omega) (by omega))
 have hz4:W1.heap.size+1≤W4.heap.size:=Nat.le_trans hz3 hk4.size
 have K4:Qae (fun x=>x=S∨x=w1.heap.size∨x=w.heap.size∨x=w.heap.size+1) W1 W4:=((((Qae.refl _ W1).alloc (E zM 40)).trans HK3.out fun b hb h=>by omega).trans hk4 fun b hb h=>.inl h)
 have HQ4:Hid (Qae (fun x=>x=S∨x=w1.heap.size) W1 W4):=((((Qae.refl _ W1).alloc (E zM 40)).trans HK3.out fun b hb h=>by omega).trans hk4 fun b hb h=>.inl h)
 have x0:W4.cell? ⟨w1.heap.size,0,J⟩=Q (Z V k):=hRX4 0 _ rfl
 have x1:W4.cell? ⟨w1.heap.size,1,J⟩=Q (Z V q):=hRX4 1 _ rfl
 have x2:W4.cell? ⟨w1.heap.size,2,J⟩=Q (I na nn nc):=hRX4 2 _ rfl
 have hbr:BRd W4 na nd:=by
  by_cases e:nd=[]
  ·rw [e]; exact Qbf _ _
  ·have h9:=Qas (HND.out.2.2.2 e) K4 (fun x hx h=>by omega)
   have hln:=HND.out.1
   subst hln
   obtain ⟨a7,c7,e7,_,hr7⟩:=Qic h9 (by have:=HND.out.2.1; omega) HND.out.2.2.1
   cases e7
   exact hr7
 have HCp:=Qaa (Qqm k q na nn nc nd W4 HND.out.1 HND.out.2.1 hbr)
 have HS4:=Qaa hs4
 have HRX4:=Qaa hRX4
 have HRY4:=Qaa hRY4
 have HK4:=Qaa K4
 have zX4:w1.heap.size < W4.heap.size:=by omega
 clear hs4 hk4 hRX4 hRY4 K4 hbr HS3 HRX HRY HK3 hz3
 go_wp2_with fail
 refine HCp.out.mono ?_
 rintro e W5 ⟨a9,c9,rfl,ho5,hb5⟩
 have hs5:=HS4.out.below hb5
 have y1:=hs5.c1
 have y2:=hs5.c2
 have y3:=hs5.c3
 have y0:=hs5.c0
 have g1:=hs5.fz 1 (by omega)
 have g2:=hs5.fz 2 (by omega)
 have g3:=hs5.fz 3 (by omega)
 have zS5:S < W5.heap.size:=U W5 _ y0
 have hz5:W4.heap.size≤W5.heap.size:=hb5.size
 have K6:Qae (fun x=>x=S) W5 (((W5.setCell ⟨S,1,J⟩ (Z V k)).setCell ⟨S,2,J⟩ (Z V q)).setCell ⟨S,3,J⟩ (I a9 nn c9)):=(((Qae.refl (fun x=>x=S) W5).setCell S 1 _ (.inl rfl)).setCell S 2 _ (.inl rfl)).setCell S 3 _ (.inl rfl)
 have K46:Qae (fun x=>x=S) W4 (((W5.setCell ⟨S,1,J⟩ (Z V k)).setCell ⟨S,2,J⟩ (Z V q)).setCell ⟨S,3,J⟩ (I a9 nn c9)):=(Qae.of_below hb5 _).trans K6 fun _ _ h=>h
 have HS6:=Qaa (hs5.note k q (I a9 nn c9))
 have HRX6:=Qaa (Qeq HRX4.out (K46.block w1.heap.size (by omega) (by omega)))
 have HRY6:=Qaa (Qeq HRY4.out (K46.block W1.heap.size (by omega) (by omega)))
 have HK16:Hid (Qae (fun x=>x=S∨x=w1.heap.size∨x=w.heap.size∨x=w.heap.size+1) W1 (((W5.setCell ⟨S,1,J⟩ (Z V k)).setCell ⟨S,2,J⟩ (Z V q)).setCell ⟨S,3,J⟩ (I a9 nn c9))):=HK4.out.trans K46 fun b hb h=>.inl h
 have HQ:Hid (∀ b,b < W1.heap.size→(b≠S∧b≠w1.heap.size)→(((W5.setCell ⟨S,1,J⟩ (Z V k)).setCell ⟨S,2,J⟩ (Z V q)).setCell ⟨S,3,J⟩ (I a9 nn c9)).heap[b]?=W1.heap[b]?):=fun b hb h=>by
  rw [K46.block b (by omega) h.1]
  exact HQ4.out.block b hb (by omega)
 have HO6:Hid ((((W5.setCell ⟨S,1,J⟩ (Z V k)).setCell ⟨S,2,J⟩ (Z V q)).setCell ⟨S,3,J⟩ (I a9 nn c9)).ownsRow W4.heap.size 5 1 (I a9 nn c9) nn (Qal nd)):=Qas ho5 K6 (fun x hx e=>by omega)
 clear hb5 hs5 K6 K46 ho5 HS4 HRX4 HRY4 HK4 HCp
 go_wp2_with fail
 have hz6:W4.heap.size≤(((W5.setCell ⟨S,1,J⟩ (Z V k)).setCell ⟨S,2,J⟩ (Z V q)).setCell ⟨S,3,J⟩ (I a9 nn c9)).heap.size:=by simpa using hz5
 generalize (((W5.setCell ⟨S,1,J⟩ (Z V k)).setCell ⟨S,2,J⟩ (Z V q)).setCell ⟨S,3,J⟩ (I a9 nn c9))=W6 at *
 clear y0 y1 y2 y3 g1 g2 g3 zS5 hz5
 have HM6:Hid (W6.heap[w.heap.size]?=Q (E zM 40 (0,0))):=by
  show _=_
  rw [← HM.out,← HB1.out.block w.heap.size (by omega)]
  exact HQ.out w.heap.size (by omega) (by omega)
 have HN6:Hid (W6.heap[w.heap.size+1]?=Q (E #[Z V 0,Z V 0,I J 0 0] 38 (0,0))):=by
  show _=_
  rw [← HN.out,← HB1.out.block (w.heap.size+1) (by omega)]
  exact HQ.out (w.heap.size+1) (by omega) (by omega)
 refine Qkj _ W6 w.heap.size (w.heap.size+1) 40 zM C #[Z V 0,Z V 0,I J 0 0] #[Z V k,Z V q,I na nn nc] 68 69 _ _ (opi rfl) (opi rfl) (opi rfl) (opi rfl) (opi rfl) rfl (by kernel_rfl) (by kernel_rfl) (by kernel_rfl) (by kernel_rfl) (by kernel_rfl) (by kernel_rfl) (by kernel_rfl) (by kernel_rfl) (by kernel_rfl)
  (fun ty po af W' hW=>Qeb HC.out (g:=W1.heap.size) (by rfl) (Qeq HRY6.out (hW.block _ (by omega) (by omega))))
  (fun ty po af W' hW=>Qlv (g:=w1.heap.size) (by rfl) (Qeq HRX6.out (hW.block _ (by omega) (by omega)))) rfl rfl (show 68 < 70 by decide) (show 69 < 70 by decide) (by decide) HM6.out HN6.out (by omega) (by rw [HC.out.1]; rfl) rfl (by rw [infoM,HC.out.1]) infoN HC.out.2 (by simp [Value.oneCell']) ?_
 simp only [Act.put,L,List.set_cons_zero,List.set_cons_succ]
 have HRM:Hid (((({ W6 with drawn:=W6.drawn+1 } : World).setCells w.heap.size 0 C.toList).setCells (w.heap.size+1) 0 (#[Value.int V k,Z V q,I na nn nc]:Array Value).toList).rangeAt w.heap.size 0 C.toList):=Qb7 (Qb2 (w:={ W6 with drawn:=W6.drawn+1 }) HM6.out (by rw [HC.out.1]; exact T _)) (by omega)
 have HRN:Hid (((({ W6 with drawn:=W6.drawn+1 } : World).setCells w.heap.size 0 C.toList).setCells (w.heap.size+1) 0 (#[Value.int V k,Z V q,I na nn nc]:Array Value).toList).rangeAt (w.heap.size+1) 0 (#[Value.int V k,Z V q,I na nn nc]:Array Value).toList) :=
  Qb2 (C0:=#[Z V 0,Z V 0,I J 0 0]) (t:=38) (by rw [Qax (by omega)]; exact HN6.out) (by simp)
 have hKe:Qae (fun x=>x=w.heap.size∨x=w.heap.size+1) W6 ((({ W6 with drawn:=W6.drawn+1 } : World).setCells w.heap.size 0 C.toList).setCells (w.heap.size+1) 0 (#[Value.int V k,Z V q,I na nn nc]:Array Value).toList) :=
  (Qae.setCells (w:=W6) (w1:={ W6 with drawn:=W6.drawn+1 }) ⟨rfl,rfl,rfl,T _,fun _ _ _=>rfl⟩ _ 0 _ (.inl (.inl rfl))).setCells _ 0 _ (.inl (.inr rfl))
 have HS9:=Qaa (HS6.out.keep hKe (by omega))
 have HO9:=Qaa (Qas HO6.out hKe (fun x hx e=>by omega))
 have hK19:=HK16.out.trans hKe (fun b hb h=>by omega)
 have HR9:=Qaa (HRk.out C k q _ nd W.heap.size W1 _ _ hK19 (fun x hx h=>by omega) HR.out)
 have HKw:Hid (Qae (fun x=>x=S) w ((({ W6 with drawn:=W6.drawn+1 } : World).setCells w.heap.size 0 C.toList).setCells (w.heap.size+1) 0 (#[Value.int V k,Z V q,I na nn nc]:Array Value).toList)):=(Qae.of_below (HBW2.out.trans (HB1.out.mono (by omega))) (fun x=>x=S)).trans hK19 (fun b hb h=>by omega)
 clear hKe hK19
 generalize ((({ W6 with drawn:=W6.drawn+1 } : World).setCells w.heap.size 0 C.toList).setCells (w.heap.size+1) 0 (#[Value.int V k,Z V q,I na nn nc]:Array Value).toList)=W9 at *
 go_wp2_with fail
 exact bodyPost_ret (v:=.tuple #[.agg C,.agg #[Z V k,Z V q,I na nn nc],.bool true]) (Qff Tryz.results14 _ W9 w.heap.size (w.heap.size+1) C _ _ rfl rfl rfl HRM.out HRN.out Tryz.underlying40 rfl (by rw [infoM,HC.out.1]) Tryz.underlying38 rfl infoN) rfl ⟨C,k,q,_,rfl,⟨nd,⟨W.heap.size,by omega,HR9.out⟩,a9,⟨c9,by rw [HND.out.1]; exact HS9.out⟩,by
  have h9:=HO9.out
  have hln:=HND.out.1
  subst hln
  obtain ⟨a7,c7,e7,_,hr7⟩:=Qic h9 (by have:=HND.out.2.1; omega) HND.out.2.2.1
  cases e7
  exact hr7⟩,HKw.out⟩
end
