import Derived.Test.YtdojlejehjbliaaGreatDoorPA14
import Derived.Shelf.SlSortCmp.WholeK
namespace Go.Proofs.YtdojlejehjbliaaGreatDoor
set_option maxHeartbeats 4000000
open _root_.Go.Value renaming slice → I,int → V,pointer → D
open _root_.Go.Obj renaming cells → J
open _root_.Go.IntKind renaming i64 → Z
open _root_.Option renaming none → Q,some → U
open _root_.Go.Proofs.Tryz renaming prog → Y
open _root_.Go.Ending renaming returned → K
open _root_.Nat renaming le_refl → E
open Go.RowKit
set_option maxRecDepth 100000
def Qks (w w':World)(e:Ending)(k s:Nat)(d:List Nat):Prop:=∃ u,e=K (.tuple #[.agg zU,u])∧Qby w.heap.size w' u k s d
def Qda (bs:List Nat):Option (List (Nat×Nat)):=Qch (fun j=>bs.getD j 0) bs.length 0 []
theorem Qd1 (a:Option Addr)(cap:Nat)(bs:List Nat)(w:World)(hl:bs.length≤100000)(hc:bs.length≤cap)(h:BRd w a bs) :
  Calls Y 42 #[I a bs.length cap] w fun e w'=>Qm2 w w' (Qda bs) e∧Below w.heap.size w w' :=
 Qpt a bs.length cap (fun j=>bs.getD j 0) w hl hc (fun j hj=>by
  rw [List.getD_eq_getElem?_getD,List.getElem?_eq_getElem hj]
  exact h.2 _ (List.getElem_mem hj)) h.1
section
attribute [local go_sem ↓] Qdv keptU_alloc Qd6 Qep
theorem Qoo (a:Option Addr)(n c:Nat)(bs:List Nat)(w:World)(hn:bs.length=n)(hl:n≤5000)(hcap:n≤c)(h:BRd w a bs)(h1:Qhb 2 bs=Q) :
  Calls Y 22 #[I a n c] w fun e w'=>Qks w w' e 3 1 []∧Below w.heap.size w w':=by
 have HW:Hid (UW w ((w.alloc (J zU 36)).alloc (J #[V Z 0,V Z 0,I Q 0 0] 38))):=UW.made w
 have hc1:=Qcw a c 2 bs ((w.alloc (J zU 36)).alloc (J #[V Z 0,V Z 0,I Q 0 0] 38)) (by omega) (by omega) (by omega) (by omega) (h.below HW.out.bel)
 rw [h1,hn] at hc1
 have HC1:=Qaa hc1
 have HC2:Hid (∀ m,Calls Y 39 #[I Q 0 0,V Z 2] (((w.alloc (J zU 36)).alloc (J #[V Z 0,V Z 0,I Q 0 0] 38)).drewN m) fun e w'=>e=K (.tuple #[I Q 0 0,I Q 0 0,.bool false])∧∃ m2,w'=(((w.alloc (J zU 36)).alloc (J #[V Z 0,V Z 0,I Q 0 0] 38)).drewN m).drewN m2):=fun m=>Qcw Q 0 2 [] (((w.alloc (J zU 36)).alloc (J #[V Z 0,V Z 0,I Q 0 0] 38)).drewN m) (by omega) (by omega) (by simp) (by simp) (Qbf _ _)
 have KE:Hid (∀ X,UW w X→Calls Y 20 #[V Z 3,V Z 1,I Q 0 0] X fun e w3=>∃ a9 c9 W5,e=K (.agg #[V Z 3,V Z 1,I a9 0 c9])∧Hid ((Instr.storeAt 36 (D (U ⟨w.heap.size,0,Q⟩)) (.agg zU)).run Y w3=.ok () W5)∧Hid (Qc3 W5 (w.heap.size+1))∧Hid (Jbu w W5 3 1 [] a9 0 c9)):=fun X hX=>Qom w X hX 3 1 Q 0 0 [] rfl (by decide) (Qbf _ _)
 unfold Qjl at HC1
 unfold Qks Qby
 simp only at HC1
 clear h hc1 h1 hn hl hcap
 go_enter Tryz.func22,Tryz.ntmps22
 go_wp2_with (first | (refine Qbc _ (Qco w) ?_))
 refine HC1.out.mono ?_
 rintro e w1 ⟨rfl,m,rfl⟩
 go_wp2_with fail
 with_reducible refine (HC2.out m).mono ?_
 rintro e w2 ⟨rfl,m2,hw2⟩
 have HWX:Hid (UW w w2):=by rw [hw2]; exact HW.out.later (W':=(((w.alloc (J zU 36)).alloc (J #[V Z 0,V Z 0,I Q 0 0] 38)).drewN m).drewN m2) ⟨rfl,rfl,rfl,E _,fun _ _=>rfl⟩
 clear hw2
 go_wp2_with (first | (refine Qdc _ (Qe2 _) ?_))
 refine (KE.out _ HWX.out).mono ?_
 rintro e w3 ⟨a9,c9,W5,rfl,HST,HX,HF⟩
 obtain ⟨_,r0,r1,r2,f0,f1,f2⟩:=HX.out
 go_wp2_with (refine Qa4 _ _ (D (U ⟨w.heap.size,0,Q⟩)) (.agg zU) (by rfl) (by rfl) HST.out ?_)
 refine bodyPost_ret (v:=.tuple #[.agg zU,.agg #[V Z 3,V Z 1,I a9 0 c9]]) (Qar Tryz.results22 _ _ w.heap.size (w.heap.size+1) zU #[V Z 3,V Z 1,I a9 0 c9] rfl rfl HF.out.rU HF.out.rN Tryz.underlying36 rfl infoU Tryz.underlying38 rfl infoN) rfl ⟨?_,HF.out.bel⟩
 exact ⟨_,rfl,a9,c9,rfl,HF.out.own⟩
theorem Qo2 (a:Option Addr)(n c:Nat)(bs p q:List Nat)(w:World)(hn:bs.length=n)(hl:n≤5000)(hcap:n≤c)(h:BRd w a bs)(h1:Qhb 2 bs=U (p,q))(hq5:q.length≤5000)(h2:Qhb 2 q=Q) :
  Calls Y 22 #[I a n c] w fun e w'=>Qks w w' e 3 1 []∧Below w.heap.size w w':=by
 have HW:Hid (UW w ((w.alloc (J zU 36)).alloc (J #[V Z 0,V Z 0,I Q 0 0] 38))):=UW.made w
 have hc1:=Qcw a c 2 bs ((w.alloc (J zU 36)).alloc (J #[V Z 0,V Z 0,I Q 0 0] 38)) (by omega) (by omega) (by omega) (by omega) (h.below HW.out.bel)
 rw [h1,hn] at hc1
 have HC1:=Qaa hc1
 have HC2:Hid (∀ m aq cq,q.length≤cq→BRd ((w.alloc (J zU 36)).alloc (J #[V Z 0,V Z 0,I Q 0 0] 38)) aq q→Calls Y 39 #[I aq q.length cq,V Z 2] (((w.alloc (J zU 36)).alloc (J #[V Z 0,V Z 0,I Q 0 0] 38)).drewN m) fun e w'=>e=K (.tuple #[I Q 0 0,I Q 0 0,.bool false])∧∃ m2,w'=(((w.alloc (J zU 36)).alloc (J #[V Z 0,V Z 0,I Q 0 0] 38)).drewN m).drewN m2):=fun m aq cq h5 h6=>by
  have:=Qcw aq cq 2 q (((w.alloc (J zU 36)).alloc (J #[V Z 0,V Z 0,I Q 0 0] 38)).drewN m) (by omega) (by omega) (by omega) h5 (h6.below ⟨rfl,rfl,rfl,E _,fun _ _=>rfl⟩)
  rw [h2] at this
  exact this
 have KE:Hid (∀ X,UW w X→Calls Y 20 #[V Z 3,V Z 1,I Q 0 0] X fun e w3=>∃ a9 c9 W5,e=K (.agg #[V Z 3,V Z 1,I a9 0 c9])∧Hid ((Instr.storeAt 36 (D (U ⟨w.heap.size,0,Q⟩)) (.agg zU)).run Y w3=.ok () W5)∧Hid (Qc3 W5 (w.heap.size+1))∧Hid (Jbu w W5 3 1 [] a9 0 c9)):=fun X hX=>Qom w X hX 3 1 Q 0 0 [] rfl (by decide) (Qbf _ _)
 unfold Qjl at HC1
 unfold Qks Qby
 simp only at HC1
 clear h hc1 h1 h2 hn hl hcap hq5
 generalize q.length=nq at *
 generalize p.length=np at *
 go_enter Tryz.func22,Tryz.ntmps22
 go_wp2_with (first | (refine Qbc _ (Qco w) ?_))
 refine HC1.out.mono ?_
 rintro e w1 ⟨⟨ap,cp,aq,cq,rfl,hp1,hq1,hp2,hq2⟩,m,rfl⟩
 have HQ2:=Qaa hq2
 clear hp2 hq2 hp1
 go_wp2_with fail
 with_reducible refine (HC2.out m aq cq hq1 HQ2.out).mono ?_
 rintro e w2 ⟨rfl,m2,hw2⟩
 have HWX:Hid (UW w w2):=by rw [hw2]; exact HW.out.later (W':=(((w.alloc (J zU 36)).alloc (J #[V Z 0,V Z 0,I Q 0 0] 38)).drewN m).drewN m2) ⟨rfl,rfl,rfl,E _,fun _ _=>rfl⟩
 clear hw2
 go_wp2_with (first | (refine Qdc _ (Qe2 _) ?_))
 refine (KE.out _ HWX.out).mono ?_
 rintro e w3 ⟨a9,c9,W5,rfl,HST,HX,HF⟩
 obtain ⟨_,r0,r1,r2,f0,f1,f2⟩:=HX.out
 go_wp2_with (refine Qa4 _ _ (D (U ⟨w.heap.size,0,Q⟩)) (.agg zU) (by rfl) (by rfl) HST.out ?_)
 refine bodyPost_ret (v:=.tuple #[.agg zU,.agg #[V Z 3,V Z 1,I a9 0 c9]]) (Qar Tryz.results22 _ _ w.heap.size (w.heap.size+1) zU #[V Z 3,V Z 1,I a9 0 c9] rfl rfl HF.out.rU HF.out.rN Tryz.underlying36 rfl infoU Tryz.underlying38 rfl infoN) rfl ⟨?_,HF.out.bel⟩
 exact ⟨_,rfl,a9,c9,rfl,HF.out.own⟩
end
theorem Qdi {k:Nat}{bs p q:List Nat} (h:Qhb k bs=U (p,q)):p.length≤bs.length∧q.length≤bs.length:=by
 unfold Qhb at h
 split at h
 ·cases h
 ·split at h
  ·cases h
  ·simp only [Option.some.injEq,Prod.mk.injEq] at h
   obtain ⟨rfl,rfl⟩:=h
   exact ⟨by rw [List.length_take,List.length_drop]; omega,by rw [List.length_drop]; omega⟩
theorem Qqc (a:Option Addr)(cap:Nat)(bs:List Nat)(w:World)(hl:bs.length≤100000)(hc:bs.length≤cap)(h:BRd w a bs) :
  Calls Y 42 #[I a bs.length cap] w fun e w'=>∃ v,e=K (.tuple #[v,.bool (Qda bs).isSome])∧Below w.heap.size w w':=by
 refine (Qd1 a cap bs w hl hc h).mono ?_
 rintro e w' ⟨hd,hb⟩
 cases hr:Qda bs with
 | none=>rw [hr] at hd; exact ⟨_,hd,hb⟩
 | some ps=>rw [hr] at hd; obtain ⟨v,e1,_⟩:=hd; exact ⟨v,e1,hb⟩
section
attribute [local go_sem ↓] Qdv keptU_alloc Qd6 Qep
theorem Qlc (a:Option Addr)(n c:Nat)(bs p q at_ nl:List Nat)(w:World)(hn:bs.length=n)(hl:n≤5000)(hcap:n≤c)(h:BRd w a bs)(h1:Qhb 2 bs=U (p,q))(h2:Qhb 2 q=U (at_,nl))(h3:((Qda p).isSome && (Qda nl).isSome)=false) :
  Calls Y 22 #[I a n c] w fun e w'=>Qks w w' e 3 10 []∧Below w.heap.size w w':=by
 have HW:Hid (UW w ((w.alloc (J zU 36)).alloc (J #[V Z 0,V Z 0,I Q 0 0] 38))):=UW.made w
 obtain ⟨lp,lq⟩:=Qdi h1
 obtain ⟨la,ln⟩:=Qdi h2
 have hc1:=Qcw a c 2 bs ((w.alloc (J zU 36)).alloc (J #[V Z 0,V Z 0,I Q 0 0] 38)) (by omega) (by omega) (by omega) (by omega) (h.below HW.out.bel)
 rw [h1,hn] at hc1
 have HC1:=Qaa hc1
 have HC2:Hid (∀ m aq cq,q.length≤cq→BRd ((w.alloc (J zU 36)).alloc (J #[V Z 0,V Z 0,I Q 0 0] 38)) aq q→Calls Y 39 #[I aq q.length cq,V Z 2] (((w.alloc (J zU 36)).alloc (J #[V Z 0,V Z 0,I Q 0 0] 38)).drewN m) fun e w'=>∃ ap2 cp2 aq2 cq2,e=K (.tuple #[I ap2 at_.length cp2,I aq2 nl.length cq2,.bool true])∧at_.length≤cp2∧nl.length≤cq2∧Hid (BRd w' ap2 at_)∧Hid (BRd w' aq2 nl)∧Hid (Below ((w.alloc (J zU 36)).alloc (J #[V Z 0,V Z 0,I Q 0 0] 38)).heap.size ((w.alloc (J zU 36)).alloc (J #[V Z 0,V Z 0,I Q 0 0] 38)) w')):=fun m aq cq h5 h6=>by
  have:=Qcw aq cq 2 q (((w.alloc (J zU 36)).alloc (J #[V Z 0,V Z 0,I Q 0 0] 38)).drewN m) (by omega) (by omega) (by omega) h5 (h6.below ⟨rfl,rfl,rfl,E _,fun _ _=>rfl⟩)
  rw [h2] at this
  refine this.mono ?_
  rintro e w' ⟨⟨ap2,cp2,aq2,cq2,e1,e2,e3,e4,e5⟩,m2,rfl⟩
  have hb:Below (((w.alloc (J zU 36)).alloc (J #[V Z 0,V Z 0,I Q 0 0] 38)).drewN m).heap.size (((w.alloc (J zU 36)).alloc (J #[V Z 0,V Z 0,I Q 0 0] 38)).drewN m) ((((w.alloc (J zU 36)).alloc (J #[V Z 0,V Z 0,I Q 0 0] 38)).drewN m).drewN m2):=⟨rfl,rfl,rfl,E _,fun _ _=>rfl⟩
  exact ⟨ap2,cp2,aq2,cq2,e1,e2,e3,e4.below hb,e5.below hb,⟨rfl,rfl,rfl,E _,fun _ _=>rfl⟩⟩
 have KP1:Hid (∀ X ap cp,p.length≤cp→BRd X ap p→Calls Y 42 #[I ap p.length cp] X fun e w'=>∃ v,e=K (.tuple #[v,.bool (Qda p).isSome])∧Below X.heap.size X w'):=fun X ap cp h5 h6=>Qqc ap cp p X (by omega) h5 h6
 have KP2:Hid (∀ X ap cp,nl.length≤cp→BRd X ap nl→Calls Y 42 #[I ap nl.length cp] X fun e w'=>∃ v,e=K (.tuple #[v,.bool (Qda nl).isSome])∧Below X.heap.size X w'):=fun X ap cp h5 h6=>Qqc ap cp nl X (by omega) h5 h6
 have KE:Hid (∀ X,UW w X→Calls Y 20 #[V Z 3,V Z 10,I Q 0 0] X fun e w3=>∃ a9 c9 W5,e=K (.agg #[V Z 3,V Z 10,I a9 0 c9])∧Hid ((Instr.storeAt 36 (D (U ⟨w.heap.size,0,Q⟩)) (.agg zU)).run Y w3=.ok () W5)∧Hid (Qc3 W5 (w.heap.size+1))∧Hid (Jbu w W5 3 10 [] a9 0 c9)):=fun X hX=>Qom w X hX 3 10 Q 0 0 [] rfl (by decide) (Qbf _ _)
 unfold Qjl at HC1
 unfold Qks Qby
 simp only at HC1
 clear h hc1 h1 h2 hn hl hcap lp lq la ln
 generalize (Qda p).isSome=b1 at *
 generalize (Qda nl).isSome=b2 at *
 generalize q.length=nq at *
 generalize p.length=np at *
 generalize at_.length=na at *
 generalize nl.length=nn at *
 go_enter Tryz.func22,Tryz.ntmps22
 go_wp2_with (first | (refine Qbc _ (Qco w) ?_))
 refine HC1.out.mono ?_
 rintro e w1 ⟨⟨ap,cp,aq,cq,rfl,hp1,hq1,hp2,hq2⟩,m,rfl⟩
 have HP2:=Qaa hp2
 have HQ2:=Qaa hq2
 clear hp2 hq2
 go_wp2_with fail
 with_reducible refine (HC2.out m aq cq hq1 HQ2.out).mono ?_
 rintro e w2 ⟨ap2,cp2,aq2,cq2,rfl,hap,hnl,HA,HN,HB2⟩
 have HWX:=Qaa (HW.out.later HB2.out)
 go_wp2_with fail
 with_reducible refine (KP1.out w2 ap cp hp1 (HP2.out.below HB2.out)).mono ?_
 rintro e w3 ⟨v,rfl,hb3⟩
 have HW3:=Qaa (HWX.out.later hb3)
 have HN3:=Qaa (HN.out.below hb3)
 clear hb3
 go_wp2_with fail
 with_reducible refine (KP2.out w3 aq2 cq2 hnl HN3.out).mono ?_
 rintro e w4 ⟨v2,rfl,hb4⟩
 have HW4:=Qaa (HW3.out.later hb4)
 clear hb4
 cases b1 with
 | false =>
  go_wp2_with (first | (refine Qdc _ (Qe2 _) ?_))
  refine (KE.out _ HW4.out).mono ?_
  rintro e w3 ⟨a9,c9,W5,rfl,HST,HX,HF⟩
  obtain ⟨_,r0,r1,r2,f0,f1,f2⟩:=HX.out
  go_wp2_with (refine Qa4 _ _ (D (U ⟨w.heap.size,0,Q⟩)) (.agg zU) (by rfl) (by rfl) HST.out ?_)
  refine bodyPost_ret (v:=.tuple #[.agg zU,.agg #[V Z 3,V Z 10,I a9 0 c9]]) (Qar Tryz.results22 _ _ w.heap.size (w.heap.size+1) zU #[V Z 3,V Z 10,I a9 0 c9] rfl rfl HF.out.rU HF.out.rN Tryz.underlying36 rfl infoU Tryz.underlying38 rfl infoN) rfl ⟨?_,HF.out.bel⟩
  exact ⟨_,rfl,a9,c9,rfl,HF.out.own⟩
 | true =>
  have hb2:b2=false:=by simpa using h3
  subst hb2
  go_wp2_with (first | (refine Qdc _ (Qe2 _) ?_))
  refine (KE.out _ HW4.out).mono ?_
  rintro e w3 ⟨a9,c9,W5,rfl,HST,HX,HF⟩
  obtain ⟨_,r0,r1,r2,f0,f1,f2⟩:=HX.out
  go_wp2_with (refine Qa4 _ _ (D (U ⟨w.heap.size,0,Q⟩)) (.agg zU) (by rfl) (by rfl) HST.out ?_)
  refine bodyPost_ret (v:=.tuple #[.agg zU,.agg #[V Z 3,V Z 10,I a9 0 c9]]) (Qar Tryz.results22 _ _ w.heap.size (w.heap.size+1) zU #[V Z 3,V Z 10,I a9 0 c9] rfl rfl HF.out.rU HF.out.rN Tryz.underlying36 rfl infoU Tryz.underlying38 rfl infoN) rfl ⟨?_,HF.out.bel⟩
  exact ⟨_,rfl,a9,c9,rfl,HF.out.own⟩
end
theorem Qcd {w:World}{B e size n:Nat}{v:Value}{xs:List Value} (h:w.ownsRow B e size v n xs):∃ a c,v=I a n c:=by
 rcases h.2 with ⟨rfl,h0⟩ | ⟨g,cap,cur,rfl,_⟩
 ·exact ⟨Q,0,by rw [h0]⟩
 ·exact ⟨_,_,rfl⟩
theorem Qhc (w:World)(C:Array Value)(hC:UC C):∃ W5,(Instr.storeAt 36 (D (U ⟨w.heap.size,0,Q⟩)) (.agg C)).run Y (w.alloc (J zU 36))=.ok () W5∧W5.heap[w.heap.size]?=U (J C 36 (0,0))∧Below w.heap.size w W5:=by
 have h0:(w.alloc (J zU 36)).heap[w.heap.size]?=U (J zU 36 (0,0)):=heap_alloc_new w _
 have hk:Qae (fun x=>x=w.heap.size) (w.alloc (J zU 36)) ((w.alloc (J zU 36)).setCells w.heap.size 0 C.toList):=(Qae.refl _ _).setCells _ 0 _ (.inl rfl)
 exact ⟨_,Qik h0 rfl hC,Qex h0 hC.1,((Below.refl _ _).alloc (E _) _).trans (hk.below _ (by simp) (fun x e=>by omega))⟩
structure Jck (w W5 W6:World) (C:Array Value):Prop where
 rU:(W6.setCells (w.heap.size+1) 0 [V Z 0,V Z 0,I Q 0 0]).rangeAt w.heap.size 0 C.toList
 rN:(W6.setCells (w.heap.size+1) 0 [V Z 0,V Z 0,I Q 0 0]).rangeAt (w.heap.size+1) 0 [V Z 0,V Z 0,I Q 0 0]
 keep:Qae (fun x=>x=w.heap.size∨x=w.heap.size+1) W5 (W6.setCells (w.heap.size+1) 0 [V Z 0,V Z 0,I Q 0 0])
 bel:Below w.heap.size w (W6.setCells (w.heap.size+1) 0 [V Z 0,V Z 0,I Q 0 0])
theorem Qpm (w W5:World)(C:Array Value)(hC:UC C)(hW:UW w W5):∃ W6,(Instr.storeAt 36 (D (U ⟨w.heap.size,0,Q⟩)) (.agg C)).run Y W5=.ok () W6∧Qc3 W6 (w.heap.size+1)∧Jck w W5 W6 C:=by
 have h5:(W5.setCells w.heap.size 0 C.toList).heap[w.heap.size]?=U (J C 36 (0,0)):=Qex hW.bU hC.1
 have h6:(W5.setCells w.heap.size 0 C.toList).heap[w.heap.size+1]?=U (J #[V Z 0,V Z 0,I Q 0 0] 38 (0,0)):=by rw [Qax (by omega)]; exact hW.bN
 have hk:Qae (fun x=>x=w.heap.size∨x=w.heap.size+1) W5 ((W5.setCells w.heap.size 0 C.toList).setCells (w.heap.size+1) 0 [V Z 0,V Z 0,I Q 0 0]):=((Qae.refl _ _).setCells _ 0 _ (.inl (.inl rfl))).setCells _ 0 _ (.inl (.inr rfl))
 refine ⟨_,Qik hW.bU rfl hC,Qx4 h6,⟨Qb7 (Qai h5) (by omega),?_,hk,hW.bel.trans (hk.below _ hW.bel.size (fun x e=>by omega))⟩⟩
 exact Qb2 (C0:=#[V Z 0,V Z 0,I Q 0 0]) (C:=#[V Z 0,V Z 0,I Q 0 0]) h6 (by simp)
def Qya (w w':World)(e:Ending)(G N:List (Nat×Nat))(A:Array Value):Prop:=∃ v u,e=K (.tuple #[.agg (Qct v A u),.agg #[V Z 0,V Z 0,I Q 0 0]])∧w'.ownsRow w.heap.size 94 2 v G.length (pcells G)∧w'.ownsRow w.heap.size 94 2 u N.length (pcells N)
section
attribute [local go_sem ↓] Qdv keptU_alloc Qd6 Qep
theorem Qo6 (a:Option Addr)(n c:Nat)(bs p q nl:List Nat)(w:World)(hn:bs.length=n)(hl:n≤5000)(hcap:n≤c)(h:BRd w a bs)(h1:Qhb 2 bs=U (p,q))(h2:Qhb 2 q=U ([],nl))(G:List (Nat×Nat))(h3:Qda p=U G)(h4:Qda nl=U []) :
  Calls Y 22 #[I a n c] w fun e w'=>Qya w w' e G [] zA7∧Below w.heap.size w w':=by
 have HW:Hid (UW w ((w.alloc (J zU 36)).alloc (J #[V Z 0,V Z 0,I Q 0 0] 38))):=UW.made w
 obtain ⟨lp,lq⟩:=Qdi h1
 obtain ⟨la,ln⟩:=Qdi h2
 have hc1:=Qcw a c 2 bs ((w.alloc (J zU 36)).alloc (J #[V Z 0,V Z 0,I Q 0 0] 38)) (by omega) (by omega) (by omega) (by omega) (h.below HW.out.bel)
 rw [h1,hn] at hc1
 have HC1:=Qaa hc1
 have HC2:Hid (∀ m aq cq,q.length≤cq→BRd ((w.alloc (J zU 36)).alloc (J #[V Z 0,V Z 0,I Q 0 0] 38)) aq q→Calls Y 39 #[I aq q.length cq,V Z 2] (((w.alloc (J zU 36)).alloc (J #[V Z 0,V Z 0,I Q 0 0] 38)).drewN m) fun e w'=>∃ ap2 cp2 aq2 cq2,e=K (.tuple #[I ap2 ([]:List Nat).length cp2,I aq2 nl.length cq2,.bool true])∧([]:List Nat).length≤cp2∧nl.length≤cq2∧Hid (BRd w' ap2 ([]:List Nat))∧Hid (BRd w' aq2 nl)∧Hid (Below ((w.alloc (J zU 36)).alloc (J #[V Z 0,V Z 0,I Q 0 0] 38)).heap.size ((w.alloc (J zU 36)).alloc (J #[V Z 0,V Z 0,I Q 0 0] 38)) w')):=fun m aq cq h5 h6=>by
  have:=Qcw aq cq 2 q (((w.alloc (J zU 36)).alloc (J #[V Z 0,V Z 0,I Q 0 0] 38)).drewN m) (by omega) (by omega) (by omega) h5 (h6.below ⟨rfl,rfl,rfl,E _,fun _ _=>rfl⟩)
  rw [h2] at this
  refine this.mono ?_
  rintro e w' ⟨⟨ap2,cp2,aq2,cq2,e1,e2,e3,e4,e5⟩,m2,rfl⟩
  have hb:Below (((w.alloc (J zU 36)).alloc (J #[V Z 0,V Z 0,I Q 0 0] 38)).drewN m).heap.size (((w.alloc (J zU 36)).alloc (J #[V Z 0,V Z 0,I Q 0 0] 38)).drewN m) ((((w.alloc (J zU 36)).alloc (J #[V Z 0,V Z 0,I Q 0 0] 38)).drewN m).drewN m2):=⟨rfl,rfl,rfl,E _,fun _ _=>rfl⟩
  exact ⟨ap2,cp2,aq2,cq2,e1,e2,e3,e4.below hb,e5.below hb,⟨rfl,rfl,rfl,E _,fun _ _=>rfl⟩⟩
 have KP1:Hid (∀ X ap cp,p.length≤cp→BRd X ap p→Calls Y 42 #[I ap p.length cp] X fun e w'=>(∃ v,e=K (.tuple #[v,.bool true])∧w'.ownsRow X.heap.size 94 2 v G.length (pcells G))∧Below X.heap.size X w'):=fun X ap cp h5 h6=>by
  have:=Qd1 ap cp p X (by omega) h5 h6
  rw [h3] at this
  exact this
 have KP2:Hid (∀ X ap cp,nl.length≤cp→BRd X ap nl→Calls Y 42 #[I ap nl.length cp] X fun e w'=>(∃ v,e=K (.tuple #[v,.bool true])∧w'.ownsRow X.heap.size 94 2 v 0 [])∧Below X.heap.size X w'):=fun X ap cp h5 h6=>by
  have:=Qd1 ap cp nl X (by omega) h5 h6
  rw [h4] at this
  exact this
 unfold Qjl at HC1
 unfold Qya
 simp only at HC1
 clear h hc1 h1 h2 hn hl hcap lp lq la ln h3 h4
 generalize q.length=nq at *
 generalize p.length=np at *
 generalize nl.length=nn at *
 generalize hGl:G.length=gl at *
 clear hGl
 go_enter Tryz.func22,Tryz.ntmps22
 go_wp2_with (first | (refine Qbc _ (Qco w) ?_))
 refine HC1.out.mono ?_
 rintro e w1 ⟨⟨ap,cp,aq,cq,rfl,hp1,hq1,hp2,hq2⟩,m,rfl⟩
 have HP2:=Qaa hp2
 have HQ2:=Qaa hq2
 clear hp2 hq2
 go_wp2_with fail
 with_reducible refine (HC2.out m aq cq hq1 HQ2.out).mono ?_
 rintro e w2 ⟨ap2,cp2,aq2,cq2,rfl,hap,hnl,HA,HN,HB2⟩
 have HWX:=Qaa (HW.out.later HB2.out)
 go_wp2_with fail
 with_reducible refine (KP1.out w2 ap cp hp1 (HP2.out.below HB2.out)).mono ?_
 rintro e w3 ⟨⟨v,rfl,ho3⟩,hb3⟩
 obtain ⟨va,vc,rfl⟩:=Qcd ho3
 have HW3:=Qaa (HWX.out.later hb3)
 have HN3:=Qaa (HN.out.below hb3)
 have hz2:w.heap.size+2≤w2.heap.size:=(Array.getElem?_eq_some_iff.1 HWX.out.bN).1
 have hz3:w.heap.size+2≤w3.heap.size:=(Array.getElem?_eq_some_iff.1 HW3.out.bN).1
 have HO3:=Qaa (Qan ho3 hz2)
 clear hb3 ho3
 go_wp2_with fail
 with_reducible refine (KP2.out w3 aq2 cq2 hnl HN3.out).mono ?_
 rintro e w4 ⟨⟨v2,rfl,ho4⟩,hb4⟩
 obtain ⟨ua,uc,rfl⟩:=Qcd ho4
 have HW4:=Qaa (HW3.out.later hb4)
 have HO4:=Qaa (Qan ho4 hz3)
 have HO3':=Qaa (Qaq HO3.out hb4)
 clear hb4 ho4
 have hUC:UC (Qct (I va gl vc) zA7 (I ua 0 uc)):=UC.upd rfl rfl rfl (by simp [zA7,Value.oneCell'])
 obtain ⟨W5,hst5,hb5,bel5⟩:=Qhc w4 (Qct (I va gl vc) zA7 (I ua 0 uc)) hUC
 have HW5:=Qaa (HW4.out.later bel5)
 obtain ⟨W6,hst6,hx6,hf6⟩:=Qpm w W5 (Qct (I va gl vc) zA7 (I ua 0 uc)) hUC HW5.out
 have HST5:=Qaa hst5
 have HST6:=Qaa hst6
 have HL5:=Qaa (Qj4 (Qai hb5) hUC)
 have HF6:=Qaa hf6
 have HOA:=Qaa (Qaq HO3'.out bel5)
 have HOB:=Qaa (Qaq HO4.out bel5)
 obtain ⟨_,r0,r1,r2,f0,f1,f2⟩:=hx6
 clear hst5 hst6 hb5 bel5 hf6
 go_wp2_with (first
  | (refine Qcr 0 2 _ _ (I va gl vc) (I ua 0 uc) (.agg (Qct (I va gl vc) zA7 (I ua 0 uc))) (by rfl) (by rfl) (Qeu _ _ _ _ _ _ _) ?_)
  | (refine Qbc _ (Qco w4) ?_)
  | (refine Qa4 _ _ (D (U ⟨w4.heap.size,0,Q⟩)) (.agg (Qct (I va gl vc) zA7 (I ua 0 uc))) (by rfl) (by rfl) HST5.out ?_)
  | (refine Qee _ (D (U ⟨w4.heap.size,0,Q⟩)) (.agg (Qct (I va gl vc) zA7 (I ua 0 uc))) (by rfl) HL5.out ?_)
  | (refine Qa4 _ _ (D (U ⟨w.heap.size,0,Q⟩)) (.agg (Qct (I va gl vc) zA7 (I ua 0 uc))) (by rfl) (by rfl) HST6.out ?_))
 refine bodyPost_ret (v:=.tuple #[.agg (Qct (I va gl vc) zA7 (I ua 0 uc)),.agg #[V Z 0,V Z 0,I Q 0 0]]) (Qar Tryz.results22 _ _ w.heap.size (w.heap.size+1) (Qct (I va gl vc) zA7 (I ua 0 uc)) #[V Z 0,V Z 0,I Q 0 0] rfl rfl HF6.out.rU HF6.out.rN Tryz.underlying36 rfl (by rw [infoU,hUC.1]) Tryz.underlying38 rfl infoN) rfl ⟨⟨_,_,rfl,?_,?_⟩,HF6.out.bel⟩
 ·exact Qa0 (Qas HOA.out HF6.out.keep (fun x hx=>by omega)) (by omega)
 ·exact Qa0 (Qas HOB.out HF6.out.keep (fun x hx=>by omega)) (by omega)
end
open Go.Shelf
def sortR_ren:Go.Shelf.Ren:=⟨fun | 6=>69 | 15=>103 | 14=>102 | 28=>132 | 29=>133 | 20=>124 | 21=>125 | 22=>126 | 23=>127 | 24=>128 | 25=>129 | 26=>130 | 27=>131 | 46=>146 | 47=>147 | 48=>148 | 49=>149 | 50=>150 | 57=>160 | n=>n,fun | 22=>32 | 24=>102 | 25=>128 | 3=>3 | 39=>92 | 0=>0 | 53=>24 | 55=>174 | 4=>4 | 46=>167 | 45=>166 | 50=>84 | 5=>5 | 9=>9 | 66=>187 | 70=>191 | 76=>198 | 77=>199 | n=>n,fun | n=>n⟩
theorem sortR:Go.Proofs.SlLaysF0.n6 Y sortR_ren:={
 mixed:=by kernel_rfl
 f6:=⟨Tryz.f69.name,by decide,Tryz.func69.trans (congrArg U (by kernel_rfl))⟩
 f14:=⟨Tryz.f102.name,by decide,Tryz.func102.trans (congrArg U (by kernel_rfl))⟩
 f15:=Tryz.func103.trans (congrArg U (by kernel_rfl))
 f20:=⟨Tryz.f124.name,by decide,Tryz.func124.trans (congrArg U (by kernel_rfl))⟩
 f21:=⟨Tryz.f125.name,by decide,Tryz.func125.trans (congrArg U (by kernel_rfl))⟩
 f22:=⟨Tryz.f126.name,by decide,Tryz.func126.trans (congrArg U (by kernel_rfl))⟩
 f23:=⟨Tryz.f127.name,by decide,Tryz.func127.trans (congrArg U (by kernel_rfl))⟩
 f24:=⟨Tryz.f128.name,by decide,Tryz.func128.trans (congrArg U (by kernel_rfl))⟩
 f25:=⟨Tryz.f129.name,by decide,Tryz.func129.trans (congrArg U (by kernel_rfl))⟩
 f26:=⟨Tryz.f130.name,by decide,Tryz.func130.trans (congrArg U (by kernel_rfl))⟩
 f27:=⟨Tryz.f131.name,by decide,Tryz.func131.trans (congrArg U (by kernel_rfl))⟩
 f28:=Tryz.func132.trans (congrArg U (by kernel_rfl))
 f29:=Tryz.func133.trans (congrArg U (by kernel_rfl))
 f46:=⟨Tryz.f146.name,by decide,Tryz.func146.trans (congrArg U (by kernel_rfl))⟩
 f47:=Tryz.func147.trans (congrArg U (by kernel_rfl))
 f48:=Tryz.func148.trans (congrArg U (by kernel_rfl))
 f49:=⟨Tryz.f149.name,by decide,Tryz.func149.trans (congrArg U (by kernel_rfl))⟩
 f50:=⟨Tryz.f150.name,by decide,Tryz.func150.trans (congrArg U (by kernel_rfl))⟩
 f57:=⟨Tryz.f160.name,by decide,Tryz.func160.trans (congrArg U (by kernel_rfl))⟩
 t0:=Tryz.underlying0
 a0:=Tryz.isAgg0
 z0:=Tryz.sizeOf0
 v0:=Tryz.zeroValue0
 t3:=Tryz.underlying3
 a3:=Tryz.isAgg3
 z3:=Tryz.sizeOf3
 v3:=Tryz.zeroValue3
 t4:=Tryz.underlying4
 a4:=Tryz.isAgg4
 z4:=Tryz.sizeOf4
 v4:=Tryz.zeroValue4
 t5:=Tryz.underlying5
 a5:=Tryz.isAgg5
 z5:=Tryz.sizeOf5
 v5:=Tryz.zeroValue5
 t9:=Tryz.underlying9
 a9:=Tryz.isAgg9
 z9:=Tryz.sizeOf9
 v9:=Tryz.zeroValue9
 t22:=Tryz.underlying32
 a22:=Tryz.isAgg32
 z22:=Tryz.sizeOf32
 v22:=Tryz.zeroValue32
 t25:=Tryz.underlying128
 a25:=Tryz.isAgg128
 z25:=Tryz.sizeOf128
 v25:=Tryz.zeroValue128
 t39:=Tryz.underlying92
 a39:=Tryz.isAgg92
 z39:=Tryz.sizeOf92
 v39:=Tryz.zeroValue92
 t45:=Tryz.underlying166
 a45:=Tryz.isAgg166
 z45:=Tryz.sizeOf166
 v45:=Tryz.zeroValue166
 t46:=Tryz.underlying167
 a46:=Tryz.isAgg167
 z46:=Tryz.sizeOf167
 v46:=Tryz.zeroValue167
 t50:=Tryz.underlying84
 a50:=Tryz.isAgg84
 z50:=Tryz.sizeOf84
 v50:=Tryz.zeroValue84
 t53:=Tryz.underlying24
 a53:=Tryz.isAgg24
 z53:=Tryz.sizeOf24
 v53:=Tryz.zeroValue24
 t55:=Tryz.underlying174
 a55:=Tryz.isAgg174
 z55:=Tryz.sizeOf174
 v55:=Tryz.zeroValue174
 t66:=Tryz.underlying187
 a66:=Tryz.isAgg187
 z66:=Tryz.sizeOf187
 v66:=Tryz.zeroValue187
 t70:=Tryz.underlying191
 a70:=Tryz.isAgg191
 z70:=Tryz.sizeOf191
 v70:=Tryz.zeroValue191
 t76:=Tryz.underlying198
 a76:=Tryz.isAgg198
 z76:=Tryz.sizeOf198
 v76:=Tryz.zeroValue198
 t77:=Tryz.underlying199
 a77:=Tryz.isAgg199
 z77:=Tryz.sizeOf199
 v77:=Tryz.zeroValue199 }
