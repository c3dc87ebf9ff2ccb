import Derived.Test.YtdojlejehjbliaaGreatDoorPA25
namespace Go.Proofs.YtdojlejehjbliaaGreatDoor
set_option maxHeartbeats 4000000
open _root_.Go.Value renaming slice → I,int → J,pointer → L
open _root_.Go.IntKind renaming i64 → V
open _root_.Go.Obj renaming cells → Z
open _root_.Array renaming getElem?_eq_some_iff → U
open _root_.Option renaming none → E,some → T
open _root_.Nat renaming le_refl → D
open _root_.Go.Proofs.Tryz renaming prog → R
open Go.RowKit
set_option maxRecDepth 100000
section
attribute [local go_sem ↓] Qdv keptU_alloc Qd6 Qep
theorem Qlt (a:Option Addr)(n c:Nat)(bs p q at_ nl:List Nat)(w:World)(hn:bs.length=n)(hl:n≤5000)(hcap:n≤c)(h:BRd w a bs)(h1:Qhb 2 bs=T (p,q))(h2:Qhb 2 q=T (at_,nl))(hS:Qfa w)(G:List (Nat×Nat))(h3:Qda p=T G)(h4:Qda nl=T [])(h5:at_≠[])(b:At)(h6:Qbv at_=.inr b) :
  Calls R 22 #[I a n c] w fun e w'=>Qya w w' e G [] zA7∧Below w.heap.size w w':=by
 have HW:Hid (UW w ((w.alloc (Z zU 36)).alloc (Z #[J V 0,J V 0,I E 0 0] 38))):=UW.made w
 obtain ⟨lp,lq⟩:=Qdi h1
 obtain ⟨la,ln⟩:=Qdi h2
 have hc1:=Qcw a c 2 bs ((w.alloc (Z zU 36)).alloc (Z #[J V 0,J V 0,I E 0 0] 38)) (by omega) (by omega) (by omega) (by omega) (h.below HW.out.bel)
 rw [h1,hn] at hc1
 have HC1:=Qaa hc1
 have HC2:Hid (∀ m aq cq,q.length≤cq→BRd ((w.alloc (Z zU 36)).alloc (Z #[J V 0,J V 0,I E 0 0] 38)) aq q→Calls R 39 #[I aq q.length cq,J V 2] (((w.alloc (Z zU 36)).alloc (Z #[J V 0,J V 0,I E 0 0] 38)).drewN m) fun e w'=>∃ ap2 cp2 aq2 cq2,e=.returned (.tuple #[I ap2 at_.length cp2,I aq2 nl.length cq2,.bool true])∧at_.length≤cp2∧nl.length≤cq2∧Hid (BRd w' ap2 at_)∧Hid (BRd w' aq2 nl)∧Hid (Below ((w.alloc (Z zU 36)).alloc (Z #[J V 0,J V 0,I E 0 0] 38)).heap.size ((w.alloc (Z zU 36)).alloc (Z #[J V 0,J V 0,I E 0 0] 38)) w')):=fun m aq cq h5 h6=>by
  have:=Qcw aq cq 2 q (((w.alloc (Z zU 36)).alloc (Z #[J V 0,J V 0,I E 0 0] 38)).drewN m) (by omega) (by omega) (by omega) h5 (h6.below ⟨rfl,rfl,rfl,D _,fun _ _=>rfl⟩)
  rw [h2] at this
  refine this.mono ?_
  rintro e w' ⟨⟨ap2,cp2,aq2,cq2,e1,e2,e3,e4,e5⟩,m2,rfl⟩
  have hb:Below (((w.alloc (Z zU 36)).alloc (Z #[J V 0,J V 0,I E 0 0] 38)).drewN m).heap.size (((w.alloc (Z zU 36)).alloc (Z #[J V 0,J V 0,I E 0 0] 38)).drewN m) ((((w.alloc (Z zU 36)).alloc (Z #[J V 0,J V 0,I E 0 0] 38)).drewN m).drewN m2):=⟨rfl,rfl,rfl,D _,fun _ _=>rfl⟩
  exact ⟨ap2,cp2,aq2,cq2,e1,e2,e3,e4.below hb,e5.below hb,⟨rfl,rfl,rfl,D _,fun _ _=>rfl⟩⟩
 have KP1:Hid (∀ X ap cp,p.length≤cp→BRd X ap p→Calls R 42 #[I ap p.length cp] X fun e w'=>(∃ v,e=.returned (.tuple #[v,.bool true])∧w'.ownsRow X.heap.size 94 2 v G.length (pcells G))∧Below X.heap.size X w'):=fun X ap cp h5 h6=>by
  have:=Qd1 ap cp p X (by omega) h5 h6
  rw [h3] at this
  exact this
 have KP2:Hid (∀ X ap cp,nl.length≤cp→BRd X ap nl→Calls R 42 #[I ap nl.length cp] X fun e w'=>(∃ v,e=.returned (.tuple #[v,.bool true])∧w'.ownsRow X.heap.size 94 2 v 0 [])∧Below X.heap.size X w'):=fun X ap cp h5 h6=>by
  have:=Qd1 ap cp nl X (by omega) h5 h6
  rw [h4] at this
  exact this
 have KD:Hid (∀ X ap cp,Below w.heap.size w X→at_.length≤cp→BRd X ap at_→Calls R 43 #[I ap at_.length cp] X fun e w'=>Qj0 X w' (Qbv at_) e∧Below X.heap.size X w'):=fun X ap cp hX h5 h6=>Qid ap cp at_ X (hS.below hX) (by omega) h5 h6
 have hc8:((at_.length:Int) == 0)=false:=by
  have:at_.length≠0:=fun e=>h5 (List.length_eq_zero_iff.1 e)
  simp; omega
 unfold Qjl at HC1
 simp only [h6,Qj0,atV] at KD
 unfold Qya
 simp only at HC1
 clear h hc1 h1 h2 hn hl hcap lp lq la ln h3 h4 h5 h6 hS
 generalize q.length=nq at *
 generalize p.length=np at *
 generalize nl.length=nn at *
 generalize at_.length=na at *
 generalize G.length=gl at *
 obtain ⟨og,pth,nx,md,pf,cms,rws⟩:=b
 simp only at KD
 generalize pth.length=pl at *
 generalize cms.length=cl at *
 generalize rws.length=rl at *
 go_enter Tryz.func22,Tryz.ntmps22
 go_wp2_with (first | (refine Qbc _ (Qco w) ?_))
 refine HC1.out.mono ?_
 rintro e w1 ⟨⟨ap,cp,aq,cq,rfl,hp1,hq1,hp2,hq2⟩,m,rfl⟩
 have HP2:=Qaa hp2
 have HQ2:=Qaa hq2
 clear hp2 hq2
 go_wp2_with fail
 with_reducible refine (HC2.out m aq cq hq1 HQ2.out).mono ?_
 rintro e w2 ⟨ap2,cp2,aq2,cq2,rfl,hap,hnl,HA,HN,HB2⟩
 have HWX:=Qaa (HW.out.later HB2.out)
 go_wp2_with fail
 with_reducible refine (KP1.out w2 ap cp hp1 (HP2.out.below HB2.out)).mono ?_
 rintro e w3 ⟨⟨v,rfl,ho3⟩,hb3⟩
 obtain ⟨va,vc,rfl⟩:=Qcd ho3
 have HW3:=Qaa (HWX.out.later hb3)
 have HN3:=Qaa (HN.out.below hb3)
 have HA3:=Qaa (HA.out.below hb3)
 have hz2:w.heap.size+2≤w2.heap.size:=(U.1 HWX.out.bN).1
 have hz3:w.heap.size+2≤w3.heap.size:=(U.1 HW3.out.bN).1
 have HO3:=Qaa (Qan ho3 hz2)
 clear hb3 ho3
 go_wp2_with fail
 with_reducible refine (KP2.out w3 aq2 cq2 hnl HN3.out).mono ?_
 rintro e w4 ⟨⟨v2,rfl,ho4⟩,hb4⟩
 obtain ⟨ua,uc,rfl⟩:=Qcd ho4
 have HW4:=Qaa (HW3.out.later hb4)
 have HA4:=Qaa (HA3.out.below hb4)
 have HO4:=Qaa (Qan ho4 hz3)
 have HO3':=Qaa (Qaq HO3.out hb4)
 have hz4:w.heap.size+2≤w4.heap.size:=(U.1 HW4.out.bN).1
 clear hb4 ho4
 have hUC:UC (Qct (I va gl vc) zA7 (I ua 0 uc)):=UC.upd rfl rfl rfl (by simp [zA7,Value.oneCell'])
 obtain ⟨W5,hst5,hb5,bel5⟩:=Qhc w4 (Qct (I va gl vc) zA7 (I ua 0 uc)) hUC
 have HW5:=Qaa (HW4.out.later bel5)
 have HA5:=Qaa (HA4.out.below bel5)
 have HST5:=Qaa hst5
 have HB5:=Qaa hb5
 have HOA:=Qaa (Qaq HO3'.out bel5)
 have HOB:=Qaa (Qaq HO4.out bel5)
 have hz5:w4.heap.size < W5.heap.size:=(U.1 hb5).1
 clear hst5 hb5 bel5
 go_wp2_with (first
  | (refine Qcr 0 2 _ _ (I va gl vc) (I ua 0 uc) (.agg (Qct (I va gl vc) zA7 (I ua 0 uc))) (by rfl) (by rfl) (Qeu _ _ _ _ _ _ _) ?_)
  | (refine Qbc _ (Qco w4) ?_)
  | (refine Qa4 _ _ (L (T ⟨w4.heap.size,0,E⟩)) (.agg (Qct (I va gl vc) zA7 (I ua 0 uc))) (by rfl) (by rfl) HST5.out ?_))
 with_reducible refine (KD.out W5 ap2 cp2 HW5.out.bel hap HA5.out).mono ?_
 rintro e w6 ⟨⟨p1,k1,p5,k5,p6,k6,rfl,_,_,_⟩,hb6⟩
 have HWS:Hid (UW w ((w6.alloc (Z #[J V og,I p1 pl k1,J .u32 (nx:Int),J V md,J V pf,I p5 cl k5,I p6 rl k6] 34)).alloc (Z #[J V 0,J V 0,I E 0 0] 38))):=((HW5.out.later hb6).later ((Below.refl _ _).alloc (D _) _)).later ((Below.refl _ _).alloc (D _) _)
 have hb7:Below W5.heap.size W5 ((w6.alloc (Z #[J V og,I p1 pl k1,J .u32 (nx:Int),J V md,J V pf,I p5 cl k5,I p6 rl k6] 34)).alloc (Z #[J V 0,J V 0,I E 0 0] 38)):=(hb6.alloc hb6.size _).alloc (by have:=hb6.size; simp; omega) _
 have hY7:((w6.alloc (Z #[J V og,I p1 pl k1,J .u32 (nx:Int),J V md,J V pf,I p5 cl k5,I p6 rl k6] 34)).alloc (Z #[J V 0,J V 0,I E 0 0] 38)).heap[w4.heap.size]?=T (Z (Qct (I va gl vc) zA7 (I ua 0 uc)) 36 (0,0)):=by rw [hb7.block _ hz5]; exact HB5.out
 obtain ⟨W8,hst8,hx8,hf8⟩:=Qpm w ((w6.alloc (Z #[J V og,I p1 pl k1,J .u32 (nx:Int),J V md,J V pf,I p5 cl k5,I p6 rl k6] 34)).alloc (Z #[J V 0,J V 0,I E 0 0] 38)) (Qct (I va gl vc) zA7 (I ua 0 uc)) hUC HWS.out
 have HST8:=Qaa hst8
 have HF8:=Qaa hf8
 have HL7:=Qaa (Qj4 (Qai hY7) hUC)
 have HOA7:=Qaa (Qaq HOA.out hb7)
 have HOB7:=Qaa (Qaq HOB.out hb7)
 obtain ⟨_,r0,r1,r2,f0,f1,f2⟩:=hx8
 clear hst8 hf8 hb6 hb7 hY7
 go_wp2_with (first
  | (refine Qee _ (L (T ⟨w4.heap.size,0,E⟩)) (.agg (Qct (I va gl vc) zA7 (I ua 0 uc))) (by rfl) HL7.out ?_)
  | (refine Qa4 _ _ (L (T ⟨w.heap.size,0,E⟩)) (.agg (Qct (I va gl vc) zA7 (I ua 0 uc))) (by rfl) (by rfl) HST8.out ?_))
 refine bodyPost_ret (v:=.tuple #[.agg (Qct (I va gl vc) zA7 (I ua 0 uc)),.agg #[J V 0,J V 0,I E 0 0]]) (Qar Tryz.results22 _ _ w.heap.size (w.heap.size+1) (Qct (I va gl vc) zA7 (I ua 0 uc)) #[J V 0,J V 0,I E 0 0] rfl rfl HF8.out.rU HF8.out.rN Tryz.underlying36 rfl (by rw [infoU,hUC.1]) Tryz.underlying38 rfl infoN) rfl ⟨⟨_,_,rfl,?_,?_⟩,HF8.out.bel⟩
 ·exact Qa0 (Qas HOA7.out HF8.out.keep (fun x hx=>by omega)) (by omega)
 ·exact Qa0 (Qas HOB7.out HF8.out.keep (fun x hx=>by omega)) (by omega)
end
theorem infoA:(R.info? 34).map (·.size)=T 7:=by kernel_rfl
section
variable {P:Program}{a:Act}{w w':World}{K:Act→World→Prop}{Q:Exit→Act→World→Prop}{dst:Option Tmp}{ty:TypeId}{pos:String}{after:Array Edge}{gd:Option (Nat×Bool)}
theorem Qpq (y:Operand):Oper.wp P { dst:=dst,op:=.store 34 (.tmp 82) y,type:=ty,pos:=pos,after:=after,guard:=gd } a w K Q=Qdl P { dst:=dst,op:=.store 34 (.tmp 82) y,type:=ty,pos:=pos,after:=after,guard:=gd } a w K Q:=rfl
theorem Qhy (y:Operand)(p v:Value)(hx:a.eval (.tmp 82)=p)(hy:a.eval y=v)(hr:(Instr.storeAt 34 p v).run P w=.ok () w')(h:K (a.put dst undef) w'):Qdl P { dst:=dst,op:=.store 34 (.tmp 82) y,type:=ty,pos:=pos,after:=after,guard:=gd } a w K Q:=by
 unfold Qdl Oper.wp execOp
 simp only [hx,hy,Sem.run_bind,hr,Result.andThen_ok,Sem.run_pure]
 exact h
end
theorem Qo8 {w:World}{Y:Nat}{v u:Value}{A:Array Value} (hA:A.size=7) (hA2:A.all (·.oneCell')=true) (h:w.heap[Y]?=T (Z (Qct v zA7 u) 36 (0,0))) :
  ∃ W8,(Instr.storeAt 34 (L (T ⟨Y,1,E⟩)) (.agg A)).run R w=.ok () W8∧W8.heap[Y]?=T (Z (Qct v A u) 36 (0,0))∧Qae (fun x=>x=Y) w W8:=by
 have s9:(Qct v zA7 u).size=9:=by simp [Qct,zA7]
 have ht:w.there Y 1 A.size:=fun j hj=>by
  rw [hA] at hj
  refine ⟨?_,by simp [World.frozen?,h]⟩
  simp only [World.cell?,h]
  rw [Array.getElem?_eq_getElem (by omega)]
  rfl
 have hk:Qae (fun x=>x=Y) w (w.setCells Y 1 A.toList):=(Qae.refl _ _).setCells Y 1 _ (.inl rfl)
 refine ⟨w.setCells Y 1 A.toList,run_storeAt_mid (P:=R) w Y 1 34 A ht (by rw [infoA,hA]) hA2,?_,hk⟩
 obtain ⟨C',h2,h3⟩:=Qfr A.toList 1 w _ h
 have hin:=World.rangeAt_setCells_same w Y 1 A.toList (by simpa using ht)
 have hC:∀ j,C'[j]?=(w.setCells Y 1 A.toList).cell? ⟨Y,j,E⟩:=fun j=>by simp [World.cell?,h2]
 have h0:∀ j,(Qct v zA7 u)[j]?=w.cell? ⟨Y,j,E⟩:=fun j=>by simp [World.cell?,h]
 have:C'=Qct v A u:=by
  apply Array.ext_getElem?
  intro j
  rw [hC]
  by_cases hj:1≤j∧j < 8
  ·have h5:=hin (j - 1) A[j - 1] (by rw [Array.getElem?_toList,Array.getElem?_eq_getElem (by omega)])
   rw [show 1+(j - 1)=j by omega] at h5
   rw [h5]
   unfold Qct
   rw [Array.getElem?_append_left (by simp; omega),Array.getElem?_append_right (by simp; omega)]
   simp [Array.getElem?_eq_getElem (show j - 1 < A.size by omega)]
  ·rw [World.cell?_setCells_out Y A.toList 1 w ⟨Y,j,E⟩ (fun _ _=>by show j < 1∨1+A.toList.length≤j; simp [hA]; omega),← h0]
   unfold Qct
   by_cases hj0:j=0
   ·subst hj0
    rw [Array.getElem?_append_left (by simp; omega),Array.getElem?_append_left (by simp),Array.getElem?_append_left (by simp; omega),Array.getElem?_append_left (by simp)]
   ·rw [Array.getElem?_append_right (by simp [zA7]; omega),Array.getElem?_append_right (by simp [hA]; omega)]
    simp [zA7,hA]
 rw [h2,this]
theorem Qnu {F:Nat→Prop}{w w':World}{B e size n:Nat}{v:Value}{xs:List Value} (h:w.ownsRow B e size v n xs) (hk:Qae F w w') (hF:∀ x,v.ownBlock=T x→¬ F x):w'.ownsRow B e size v n xs:=by
 refine ⟨h.1,?_⟩
 rcases h.2 with hh | ⟨g,cap,cur,e1,hg,hc,rest⟩
 ·exact .inl hh
 ·exact .inr ⟨g,cap,cur,e1,hg,by rw [hk.block g (U.1 hc).1 (hF g (by rw [e1]; rfl))]; exact hc,rest⟩
theorem Qbr.keeps {w w':World}{B:Nat}{v:Value}{rs:List (Int×Int×List Nat)}{F:Nat→Prop} (h:Qbr w B v rs) (hk:Qae F w w') (hF:∀ x,B≤x→¬ F x):Qbr w' B v rs:=by
 obtain ⟨cs,ho,hc⟩:=h
 refine ⟨cs,Qas ho hk hF,fun i r hi=>?_⟩
 obtain ⟨h1,h2,u,h3,h4⟩:=hc i r hi
 exact ⟨h1,h2,u,h3,Qas h4 hk hF⟩
theorem Qa7.keep {w w':World}{B:Nat}{v:Value}{ss:List (Bool×List Int)}{F:Nat→Prop} (h:Qa7 w B v ss) (hk:Qae F w w') (hF:∀ x,B≤x→¬ F x):Qa7 w' B v ss:=by
 obtain ⟨cs,ho,hc⟩:=h
 refine ⟨cs,Qas ho hk hF,fun i s hi=>?_⟩
 obtain ⟨h1,u,h2,h3⟩:=hc i s hi
 exact ⟨h1,u,h2,Qas h3 hk hF⟩
def Qha (w:World)(B:Nat)(A:Array Value)(b:At):Prop:=∃ p1 k1 p5 k5 p6 k6,A=#[J V b.origin,I p1 b.path.length k1,J .u32 (b.next:Int),J V b.med,J V b.pref,I p5 b.comms.length k5,I p6 b.raws.length k6]∧Qa7 w B (I p1 b.path.length k1) b.path∧w.ownsRow B 24 1 (I p5 b.comms.length k5) b.comms.length (Qb8 b.comms)∧Qbr w B (I p6 b.raws.length k6) b.raws
section
attribute [local go_sem ↓] Qdv keptU_alloc Qd6 Qep Qpq
theorem Qmb (a:Option Addr)(n c:Nat)(bs p q at_ nl:List Nat)(w:World)(hn:bs.length=n)(hl:n≤5000)(hcap:n≤c)(h:BRd w a bs)(h1:Qhb 2 bs=T (p,q))(h2:Qhb 2 q=T (at_,nl))(hS:Qfa w)(G N:List (Nat×Nat))(h3:Qda p=T G)(h4:Qda nl=T N)(h5:N≠[])(b:At)(h6:Qbv at_=.inr b) :
  Calls R 22 #[I a n c] w fun e w'=>(∃ A,Qya w w' e G N A∧Qha w' w.heap.size A b)∧Below w.heap.size w w':=by
 have HW:Hid (UW w ((w.alloc (Z zU 36)).alloc (Z #[J V 0,J V 0,I E 0 0] 38))):=UW.made w
 obtain ⟨lp,lq⟩:=Qdi h1
 obtain ⟨la,ln⟩:=Qdi h2
 have hc1:=Qcw a c 2 bs ((w.alloc (Z zU 36)).alloc (Z #[J V 0,J V 0,I E 0 0] 38)) (by omega) (by omega) (by omega) (by omega) (h.below HW.out.bel)
 rw [h1,hn] at hc1
 have HC1:=Qaa hc1
 have HC2:Hid (∀ m aq cq,q.length≤cq→BRd ((w.alloc (Z zU 36)).alloc (Z #[J V 0,J V 0,I E 0 0] 38)) aq q→Calls R 39 #[I aq q.length cq,J V 2] (((w.alloc (Z zU 36)).alloc (Z #[J V 0,J V 0,I E 0 0] 38)).drewN m) fun e w'=>∃ ap2 cp2 aq2 cq2,e=.returned (.tuple #[I ap2 at_.length cp2,I aq2 nl.length cq2,.bool true])∧at_.length≤cp2∧nl.length≤cq2∧Hid (BRd w' ap2 at_)∧Hid (BRd w' aq2 nl)∧Hid (Below ((w.alloc (Z zU 36)).alloc (Z #[J V 0,J V 0,I E 0 0] 38)).heap.size ((w.alloc (Z zU 36)).alloc (Z #[J V 0,J V 0,I E 0 0] 38)) w')):=fun m aq cq h5 h6=>by
  have:=Qcw aq cq 2 q (((w.alloc (Z zU 36)).alloc (Z #[J V 0,J V 0,I E 0 0] 38)).drewN m) (by omega) (by omega) (by omega) h5 (h6.below ⟨rfl,rfl,rfl,D _,fun _ _=>rfl⟩)
  rw [h2] at this
  refine this.mono ?_
  rintro e w' ⟨⟨ap2,cp2,aq2,cq2,e1,e2,e3,e4,e5⟩,m2,rfl⟩
  have hb:Below (((w.alloc (Z zU 36)).alloc (Z #[J V 0,J V 0,I E 0 0] 38)).drewN m).heap.size (((w.alloc (Z zU 36)).alloc (Z #[J V 0,J V 0,I E 0 0] 38)).drewN m) ((((w.alloc (Z zU 36)).alloc (Z #[J V 0,J V 0,I E 0 0] 38)).drewN m).drewN m2):=⟨rfl,rfl,rfl,D _,fun _ _=>rfl⟩
  exact ⟨ap2,cp2,aq2,cq2,e1,e2,e3,e4.below hb,e5.below hb,⟨rfl,rfl,rfl,D _,fun _ _=>rfl⟩⟩
 have KP1:Hid (∀ X ap cp,p.length≤cp→BRd X ap p→Calls R 42 #[I ap p.length cp] X fun e w'=>(∃ v,e=.returned (.tuple #[v,.bool true])∧w'.ownsRow X.heap.size 94 2 v G.length (pcells G))∧Below X.heap.size X w'):=fun X ap cp h5 h6=>by
  have:=Qd1 ap cp p X (by omega) h5 h6
  rw [h3] at this
  exact this
 have KP2:Hid (∀ X ap cp,nl.length≤cp→BRd X ap nl→Calls R 42 #[I ap nl.length cp] X fun e w'=>(∃ v,e=.returned (.tuple #[v,.bool true])∧w'.ownsRow X.heap.size 94 2 v N.length (pcells N))∧Below X.heap.size X w'):=fun X ap cp h5 h6=>by
  have:=Qd1 ap cp nl X (by omega) h5 h6
  rw [h4] at this
  exact this
 have KD:Hid (∀ X ap cp,Below w.heap.size w X→at_.length≤cp→BRd X ap at_→Calls R 43 #[I ap at_.length cp] X fun e w'=>Qj0 X w' (Qbv at_) e∧Below X.heap.size X w'):=fun X ap cp hX h5 h6=>Qid ap cp at_ X (hS.below hX) (by omega) h5 h6
 have hc9:((N.length:Int) == 0)=false:=by
  have:N.length≠0:=fun e=>h5 (List.length_eq_zero_iff.1 e)
  simp; omega
 have hc8:(0:Int) < (N.length:Int):=by
  have:N.length≠0:=fun e=>h5 (List.length_eq_zero_iff.1 e)
  omega
 unfold Qjl at HC1
 simp only [h6,Qj0,atV] at KD
 unfold Qya Qha
 simp only at HC1
 clear h hc1 h1 h2 hn hl hcap lp lq la ln h3 h4 h5 h6 hS
 generalize q.length=nq at *
 generalize p.length=np at *
 generalize nl.length=nn at *
 generalize at_.length=na at *
 generalize G.length=gl at *
 generalize N.length=nlen at *
 obtain ⟨og,pth,nx,md,pf,cms,rws⟩:=b
 simp only at KD ⊢
 generalize pth.length=pl at *
 generalize cms.length=cl at *
 generalize rws.length=rl at *
 go_enter Tryz.func22,Tryz.ntmps22
 go_wp2_with (first | (refine Qbc _ (Qco w) ?_))
 refine HC1.out.mono ?_
 rintro e w1 ⟨⟨ap,cp,aq,cq,rfl,hp1,hq1,hp2,hq2⟩,m,rfl⟩
 have HP2:=Qaa hp2
 have HQ2:=Qaa hq2
 clear hp2 hq2
 go_wp2_with fail
 with_reducible refine (HC2.out m aq cq hq1 HQ2.out).mono ?_
 rintro e w2 ⟨ap2,cp2,aq2,cq2,rfl,hap,hnl,HA,HN,HB2⟩
 have HWX:=Qaa (HW.out.later HB2.out)
 go_wp2_with fail
 with_reducible refine (KP1.out w2 ap cp hp1 (HP2.out.below HB2.out)).mono ?_
 rintro e w3 ⟨⟨v,rfl,ho3⟩,hb3⟩
 obtain ⟨va,vc,rfl⟩:=Qcd ho3
 have HW3:=Qaa (HWX.out.later hb3)
 have HN3:=Qaa (HN.out.below hb3)
 have HA3:=Qaa (HA.out.below hb3)
 have hz2:w.heap.size+2≤w2.heap.size:=(U.1 HWX.out.bN).1
 have hz3:w.heap.size+2≤w3.heap.size:=(U.1 HW3.out.bN).1
 have HO3:=Qaa (Qan ho3 hz2)
 clear hb3 ho3
 go_wp2_with fail
 with_reducible refine (KP2.out w3 aq2 cq2 hnl HN3.out).mono ?_
 rintro e w4 ⟨⟨v2,rfl,ho4⟩,hb4⟩
 obtain ⟨ua,uc,rfl⟩:=Qcd ho4
 have HW4:=Qaa (HW3.out.later hb4)
 have HA4:=Qaa (HA3.out.below hb4)
 have HO4:=Qaa (Qan ho4 hz3)
 have HO3':=Qaa (Qaq HO3.out hb4)
 have hz4:w.heap.size+2≤w4.heap.size:=(U.1 HW4.out.bN).1
 clear hb4 ho4
 have hUC:UC (Qct (I va gl vc) zA7 (I ua nlen uc)):=UC.upd rfl rfl rfl (by simp [zA7,Value.oneCell'])
 obtain ⟨W5,hst5,hb5,bel5⟩:=Qhc w4 (Qct (I va gl vc) zA7 (I ua nlen uc)) hUC
 have HW5:=Qaa (HW4.out.later bel5)
 have HA5:=Qaa (HA4.out.below bel5)
 have HST5:=Qaa hst5
 have HB5:=Qaa hb5
 have HOA:=Qaa (Qaq HO3'.out bel5)
 have HOB:=Qaa (Qaq HO4.out bel5)
 have hz5:w4.heap.size < W5.heap.size:=(U.1 hb5).1
 clear hst5 hb5 bel5
 go_wp2_with (first
  | (refine Qcr 0 2 _ _ (I va gl vc) (I ua nlen uc) (.agg (Qct (I va gl vc) zA7 (I ua nlen uc))) (by rfl) (by rfl) (Qeu _ _ _ _ _ _ _) ?_)
  | (refine Qbc _ (Qco w4) ?_)
  | (refine Qa4 _ _ (L (T ⟨w4.heap.size,0,E⟩)) (.agg (Qct (I va gl vc) zA7 (I ua nlen uc))) (by rfl) (by rfl) HST5.out ?_))
 with_reducible refine (KD.out W5 ap2 cp2 HW5.out.bel hap HA5.out).mono ?_
 rintro e w6 ⟨⟨p1,k1,p5,k5,p6,k6,rfl,hop,hoc,hor⟩,hb6⟩
 have HWS:Hid (UW w ((w6.alloc (Z #[J V og,I p1 pl k1,J .u32 (nx:Int),J V md,J V pf,I p5 cl k5,I p6 rl k6] 34)).alloc (Z #[J V 0,J V 0,I E 0 0] 38))):=((HW5.out.later hb6).later ((Below.refl _ _).alloc (D _) _)).later ((Below.refl _ _).alloc (D _) _)
 have hb7:Below W5.heap.size W5 ((w6.alloc (Z #[J V og,I p1 pl k1,J .u32 (nx:Int),J V md,J V pf,I p5 cl k5,I p6 rl k6] 34)).alloc (Z #[J V 0,J V 0,I E 0 0] 38)):=(hb6.alloc hb6.size _).alloc (by have:=hb6.size; simp; omega) _
 have hb67:Below w6.heap.size w6 ((w6.alloc (Z #[J V og,I p1 pl k1,J .u32 (nx:Int),J V md,J V pf,I p5 cl k5,I p6 rl k6] 34)).alloc (Z #[J V 0,J V 0,I E 0 0] 38)):=((Below.refl _ _).alloc (D _) _).alloc (by simp) _
 have hY7:((w6.alloc (Z #[J V og,I p1 pl k1,J .u32 (nx:Int),J V md,J V pf,I p5 cl k5,I p6 rl k6] 34)).alloc (Z #[J V 0,J V 0,I E 0 0] 38)).heap[w4.heap.size]?=T (Z (Qct (I va gl vc) zA7 (I ua nlen uc)) 36 (0,0)):=by rw [hb7.block _ hz5]; exact HB5.out
 obtain ⟨W8,hst8,hY8,hk8⟩:=Qo8 (A:=#[J V og,I p1 pl k1,J .u32 (nx:Int),J V md,J V pf,I p5 cl k5,I p6 rl k6]) rfl (by simp [Value.oneCell']) hY7
 have hUB:UC (Qct (I va gl vc) #[J V og,I p1 pl k1,J .u32 (nx:Int),J V md,J V pf,I p5 cl k5,I p6 rl k6] (I ua nlen uc)):=UC.upd rfl rfl rfl (by simp [Value.oneCell'])
 have hz7:w.heap.size+1 < w4.heap.size:=by omega
 have HW8:Hid (UW w W8):=⟨by rw [hk8.block _ (by have:=(U.1 HWS.out.bU).1; exact this) (by omega)]; exact HWS.out.bU,by rw [hk8.block _ (by have:=(U.1 HWS.out.bN).1; exact this) (by omega)]; exact HWS.out.bN,HWS.out.bel.trans (hk8.below _ HWS.out.bel.size (fun x e=>by omega))⟩
 obtain ⟨W9,hst9,hx9,hf9⟩:=Qpm w W8 (Qct (I va gl vc) #[J V og,I p1 pl k1,J .u32 (nx:Int),J V md,J V pf,I p5 cl k5,I p6 rl k6] (I ua nlen uc)) hUB HW8.out
 have HST8:=Qaa hst8
 have HST9:=Qaa hst9
 have HF9:=Qaa hf9
 have HL8:=Qaa (Qj4 (Qai hY8) hUB)
 have HOA8:=Qaa (Qnu (Qaq HOA.out hb7) hk8 (fun x hx e=>by have:=(Qb1 HO3'.out x hx).2; omega))
 have HOB8:=Qaa (Qnu (Qaq HOB.out hb7) hk8 (fun x hx e=>by have:=(Qb1 HO4.out x hx).2; omega))
 have HP8:=Qaa ((hop.later hb67).keep hk8 (fun x hx=>by omega))
 have HC8:=Qaa (Qas (Qaq hoc hb67) hk8 (fun x hx=>by omega))
 have HR8:=Qaa ((hor.later hb67).keeps hk8 (fun x hx=>by omega))
 obtain ⟨_,r0,r1,r2,f0,f1,f2⟩:=hx9
 clear hst8 hst9 hf9 hb6 hb7 hb67 hY7 hY8 hop hoc hor hk8
 go_wp2_with (first
  | (refine Qhy _ (L (T ⟨w4.heap.size,1,E⟩)) (.agg #[J V og,I p1 pl k1,J .u32 (nx:Int),J V md,J V pf,I p5 cl k5,I p6 rl k6]) (by rfl) (by rfl) HST8.out ?_)
  | (refine Qee _ (L (T ⟨w4.heap.size,0,E⟩)) (.agg (Qct (I va gl vc) #[J V og,I p1 pl k1,J .u32 (nx:Int),J V md,J V pf,I p5 cl k5,I p6 rl k6] (I ua nlen uc))) (by rfl) HL8.out ?_)
  | (refine Qa4 _ _ (L (T ⟨w.heap.size,0,E⟩)) (.agg (Qct (I va gl vc) #[J V og,I p1 pl k1,J .u32 (nx:Int),J V md,J V pf,I p5 cl k5,I p6 rl k6] (I ua nlen uc))) (by rfl) (by rfl) HST9.out ?_))
 refine bodyPost_ret (v:=.tuple #[.agg (Qct (I va gl vc) #[J V og,I p1 pl k1,J .u32 (nx:Int),J V md,J V pf,I p5 cl k5,I p6 rl k6] (I ua nlen uc)),.agg #[J V 0,J V 0,I E 0 0]]) (Qar Tryz.results22 _ _ w.heap.size (w.heap.size+1) (Qct (I va gl vc) #[J V og,I p1 pl k1,J .u32 (nx:Int),J V md,J V pf,I p5 cl k5,I p6 rl k6] (I ua nlen uc)) #[J V 0,J V 0,I E 0 0] rfl rfl HF9.out.rU HF9.out.rN Tryz.underlying36 rfl (by rw [infoU,hUB.1]) Tryz.underlying38 rfl infoN) rfl ⟨⟨#[J V og,I p1 pl k1,J .u32 (nx:Int),J V md,J V pf,I p5 cl k5,I p6 rl k6],⟨_,_,rfl,?_,?_⟩,p1,k1,p5,k5,p6,k6,rfl,?_,?_,?_⟩,HF9.out.bel⟩
 ·exact Qa0 (Qas HOA8.out HF9.out.keep (fun x hx=>by omega)) (by omega)
 ·exact Qa0 (Qas HOB8.out HF9.out.keep (fun x hx=>by omega)) (by omega)
 ·exact (HP8.out.keep HF9.out.keep (fun x hx=>by omega)).base (by omega)
 ·exact Qan (Qas HC8.out HF9.out.keep (fun x hx=>by omega)) (by omega)
 ·exact (HR8.out.keeps HF9.out.keep (fun x hx=>by omega)).base (by omega)
end
def upR (bs:List Nat):(Nat×Nat×List Nat) ⊕ (List (Nat×Nat)×List (Nat×Nat)×Option At):=match Qhb 2 bs with
 | none=>.inl (3,1,[])
 | some (p,q)=>match Qhb 2 q with
  | none=>.inl (3,1,[])
  | some (at_,nl)=>match Qda p,Qda nl with
   | some G,T N=>if N=[]∧at_=[] then .inr (G,[],E) else match Qbv at_ with
    | .inl (_,s,d)=>.inl (3,s,d)
    | .inr b=>.inr (G,N,if N=[] then E else T b)
   | _,_=>.inl (3,10,[])
def Ja4 (w w':World)(e:Ending)(r:(Nat×Nat×List Nat) ⊕ (List (Nat×Nat)×List (Nat×Nat)×Option At)):Prop:=match r with
 | .inl (k,s,d)=>Qks w w' e k s d
 | .inr (G,N,E)=>Qya w w' e G N zA7
 | .inr (G,N,T b)=>∃ A,Qya w w' e G N A∧Qha w' w.heap.size A b
theorem Qld (a:Option Addr)(n c:Nat)(bs:List Nat)(w:World)(hn:bs.length=n)(hl:n≤5000)(hcap:n≤c)(h:BRd w a bs)(hS:Qfa w) :
  Calls R 22 #[I a n c] w fun e w'=>Ja4 w w' e (upR bs)∧Below w.heap.size w w':=by
 unfold upR
 cases h1:Qhb 2 bs with
 | none=>exact Qoo a n c bs w hn hl hcap h h1
 | some pq =>
  obtain ⟨p,q⟩:=pq
  simp only
  have hq:=(Qdi h1).2
  cases h2:Qhb 2 q with
  | none=>exact Qo2 a n c bs p q w hn hl hcap h h1 (by omega) h2
  | some an =>
   obtain ⟨at_,nl⟩:=an
   simp only
   cases h3:Qda p with
   | none=>exact Qlc a n c bs p q at_ nl w hn hl hcap h h1 h2 (by rw [h3]; rfl)
   | some G =>
    cases h4:Qda nl with
    | none=>exact Qlc a n c bs p q at_ nl w hn hl hcap h h1 h2 (by rw [h3,h4]; rfl)
    | some N =>
     simp only
     by_cases h5:N=[]∧at_=[]
     ·rw [if_pos h5]
      obtain ⟨rfl,rfl⟩:=h5
      exact Qo6 a n c bs p q nl w hn hl hcap h h1 h2 G h3 h4
     ·rw [if_neg h5]
      cases h6:Qbv at_ with
      | inl x =>
       obtain ⟨k,s,d⟩:=x
       exact Qor a n c bs p q at_ nl w hn hl hcap h h1 h2 hS G N h3 h4 h5 k s d h6
      | inr b =>
       simp only
       by_cases hN:N=[]
       ·rw [if_pos hN]
        subst hN
        exact Qlt a n c bs p q at_ nl w hn hl hcap h h1 h2 hS G h3 h4 (fun e=>h5 ⟨rfl,e⟩) b h6
       ·rw [if_neg hN]
        exact Qmb a n c bs p q at_ nl w hn hl hcap h h1 h2 hS G N h3 h4 hN b h6
