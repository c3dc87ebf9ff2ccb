import Derived.Test.YtdojlejehjbliaaGreatDoorPA11
namespace Go.Proofs.YtdojlejehjbliaaGreatDoor
set_option maxHeartbeats 4000000
open _root_.Go.Value renaming slice → I,int → V
open _root_.Go.IntKind renaming i64 → J
open _root_.Option renaming none → Z,some → U
open _root_.Array renaming getElem?_eq_some_iff → Q
open _root_.List renaming setIfInBounds_toArray → K,set_cons_zero → R,set_cons_succ → T
open _root_.Go.Obj renaming cells → E
open _root_.Go.Proofs.Tryz renaming prog → D
open Go.RowKit
set_option maxRecDepth 100000
def openMsg (k:Int)(O:Array Value):Array Value:=#[V J k]++O++#[I Z 0 0,V J 0,I Z 0 0,V .u32 0,V J 0,V J 0,I Z 0 0,I Z 0 0,I Z 0 0,V J 0,V J 0,I Z 0 0]
theorem MC.openMsg (k:Int){O:Array Value}(h:OC O):MC (openMsg k O):=by
 refine ⟨by simp [Proofs.YtdojlejehjbliaaGreatDoor.openMsg,h.1],?_⟩
 have h2:=h.2
 unfold Proofs.YtdojlejehjbliaaGreatDoor.openMsg
 simp only [Array.all_append,h2]
 simp [Value.oneCell']
theorem Qhz {w:World}{Y:Nat}{k:Int}{O:Array Value} (hO:OC O) (h:w.heap[Y]?=U (E (Qbt k 0 0 (I Z 0 0)) 40 (0,0))) :
  ∃ W8,(Instr.storeAt 28 (.pointer (U ⟨Y,1,Z⟩)) (.agg O)).run D w=.ok () W8∧W8.heap[Y]?=U (E (openMsg k O) 40 (0,0))∧(∀ j,j≠Y→W8.heap[j]?=w.heap[j]?)∧W8.heap.size=w.heap.size∧Qae (fun x=>x=Y) w W8:=by
 have ht:w.there Y 1 O.size:=fun j hj=>by
  rw [hO.1] at hj
  refine ⟨?_,by simp [World.frozen?,h]⟩
  have:1+j < (Qbt k 0 0 (I Z 0 0)).size:=by show 1+j < 25; omega
  simp only [World.cell?,h]
  rw [Array.getElem?_eq_getElem this]
  rfl
 have hk:Qae (fun x=>x=Y) w (w.setCells Y 1 O.toList):=(Qae.refl _ _).setCells Y 1 _ (.inl rfl)
 have hsz:∀ (vs:List Value) (o:Nat) (w:World),(w.setCells Y o vs).heap.size=w.heap.size:=by
  intro vs
  induction vs with
  | nil=>intro o w; rfl
  | cons v r ih=>intro o w; rw [World.setCells,ih]; simp
 refine ⟨w.setCells Y 1 O.toList,run_storeAt_mid (P:=D) w Y 1 28 O ht (by rw [infoO,hO.1]) hO.2,?_,fun j hj=>?_,hsz _ _ _,hk⟩
 ·obtain ⟨C',h2,h3⟩:=Qfr O.toList 1 w _ h
  have hin:=World.rangeAt_setCells_same w Y 1 O.toList (by simpa using ht)
  have hC:∀ j,C'[j]?=(w.setCells Y 1 O.toList).cell? ⟨Y,j,Z⟩:=fun j=>by simp [World.cell?,h2]
  have h0:∀ j,(Qbt k 0 0 (I Z 0 0))[j]?=w.cell? ⟨Y,j,Z⟩:=fun j=>by simp [World.cell?,h]
  have:C'=openMsg k O:=by
   apply Array.ext_getElem?
   intro j
   have hs12:=hO.1
   rw [hC]
   by_cases hj:1≤j∧j < 13
   ·have h5:=hin (j - 1) O[j - 1] (by rw [Array.getElem?_toList,Array.getElem?_eq_getElem (by omega)])
    rw [show 1+(j - 1)=j by omega] at h5
    rw [h5]
    unfold openMsg
    rw [Array.getElem?_append_left (by simp; omega),Array.getElem?_append_right (by simp; omega)]
    simp [Array.getElem?_eq_getElem (show j - 1 < O.size by omega)]
   ·rw [World.cell?_setCells_out Y O.toList 1 w ⟨Y,j,Z⟩ (fun _ _=>by show j < 1∨1+O.toList.length≤j; simp [hs12]; omega),← h0]
    unfold openMsg
    by_cases hj0:j=0
    ·subst hj0
     rw [Array.getElem?_append_left (by simp; omega),Array.getElem?_append_left (by simp)]
     rfl
    ·rw [Array.getElem?_append_right (by simp; omega)]
     by_cases h25:j < 25
     ·have hjs:j=13∨j=14∨j=15∨j=16∨j=17∨j=18∨j=19∨j=20∨j=21∨j=22∨j=23∨j=24:=by omega
      have e13:(#[Value.int J k]++O).size=13:=by simp [hs12]
      rw [e13]
      rcases hjs with rfl | rfl | rfl | rfl | rfl | rfl | rfl | rfl | rfl | rfl | rfl | rfl <;> rfl
     ·rw [Array.getElem?_eq_none (by show 25≤j; omega),Array.getElem?_eq_none (by simp [hs12]; omega)]
  rw [h2,this]
 ·by_cases hjj:j < w.heap.size
  ·exact hk.block j hjj hj
  ·rw [Array.getElem?_eq_none (by rw [hsz]; omega),Array.getElem?_eq_none (by omega)]
def Jb0 (w w':World)(e:Ending)(r:(Nat×Nat×List Nat) ⊕ (Int×Nat×Nat×Cp)):Prop:=match r with
 | .inl (k,s,d)=>Qdd w w' e k s d
 | .inr (a,h,i,c)=>e=.returned (.tuple #[.agg (openMsg 1 (Qce a h i c)),.agg #[V J 0,V J 0,I Z 0 0]])
section
attribute [local go_sem ↓] Qbe Qba keptM_alloc Qbb Qfs
theorem Qmu (g o n cp:Nat)(bs:List Nat)(w:World)(hn:bs.length=n)(hn29:29≤n)(hl:n≤5000)(hcap:n≤cp)(h:BRd w (U ⟨g,o,Z⟩) bs)(hS:Qdb w)(hr:Qa6 bs=(n,0,0,[]))(hk1:bs.getD 18 0=1)(k s:Nat)(d:List Nat)(hk:k≠0)(ho:Qgu (bs.drop 19)=.inl (k,s,d)) :
  Calls D 7 #[I (U ⟨g,o,Z⟩) n cp] w fun e w'=>Qdd w w' e k s d∧Below w.heap.size w w':=by
 have KH:=Qes (U ⟨g,o,Z⟩) cp bs w (by omega) (by omega) h hS _ hr
 rw [hn] at KH
 have HK:=Qaa KH
 obtain ⟨g',o',e9,hc⟩:=h.1.2 (by omega)
 cases e9
 have c18:w.cell? ⟨g,o+18,Z⟩=U (V .u8 1):=by rw [hc 18 (by omega)]; show U (Value.int .u8 ((bs.getD 18 0:Nat):Int))=_; rw [hk1]; rfl
 have zg:=World.block_lt_of_cell? w _ c18
 simp only at zg
 have KO:Hid (∀ X,Below w.heap.size w X→Calls D 21 #[I (U ⟨g,o+19,Z⟩) (n - 19) (cp - 19)] X fun e w'=>Qp0 X w' e (Qgu (bs.drop 19))∧Below X.heap.size X w'):=fun X hX =>
  Qio g (o+19) (n - 19) (cp - 19) (bs.drop 19) X (by rw [List.length_drop,hn]) (by omega) (by omega) (by omega) (Qds (h.below hX) (by omega))
 have hcp19:¬ cp=19:=by omega
 have hni:¬ ((n:Int) < 19):=by omega
 have H29:Hid (29≤n∧n≤5000):=⟨hn29,hl⟩
 clear KH h hS hcap hr hn hk1 hc hl hn29
 simp only at HK
 rw [ho] at KO
 unfold Qp0 Qby at KO
 unfold Qdd Qby
 simp only at KO
 have hkz:((k:Int) != 0)=true:=by simp; omega
 clear ho
 generalize d.length=dl at *
 go_enter Tryz.func7,Tryz.ntmps7
 go_wp2_with (refine Qah _ (Qav w) ?_)
 show Calls D 19 #[I (U ⟨g,o,Z⟩) n cp] (dW w) _
 with_reducible refine HK.out.mono ?_
 rintro e w1 ⟨a9,c9,rfl,HO,HB⟩
 have HH:=Qaa (Qen a9 0 c9 HB.out zg c18)
 go_wp2_with fail
 generalize (w1.alloc (E #[V J 0,V J 0,I a9 0 c9] 38))=W at *
 refine Qgn _ W g o n cp 1 (opi rfl) (opi rfl) (opi rfl) (opi rfl) (opi rfl) (opi rfl) (opi rfl) (opi rfl) (opi rfl) (opi rfl) rfl (by kernel_rfl)
  (by kernel_rfl) (by kernel_rfl) (by kernel_rfl) (by kernel_rfl) (by kernel_rfl) (by kernel_rfl) (by kernel_rfl) (by kernel_rfl) (by kernel_rfl) (by kernel_rfl) (by kernel_rfl)
  rfl rfl (by have:=H29.out.1; omega) (by have:=H29.out.2; omega) (by omega) HH.out.c18 ?_
 intro a W6 hfr h6 h7 bY hb6
 rw [if_neg hcp19] at h7
 obtain ⟨x0,x1,x2,x3,x4,x5,x6,rfl⟩:=hfr.lay9m (by exact (by decide:∀ s∈[29,30,31,32,33,34,35,6,7],s < 75)) h6 h7
 have HD:Hid (D6 w W6 w1.heap.size W.heap.size (Qbt 1 0 0 (I Z 0 0)) (I a9 0 c9)):=HH.out.d6 bY hb6
 have hsz:=HH.out.le
 have y0:W6.cell? ⟨W.heap.size,0,Z⟩=U (V J 1):=Qai HD.out.bY 0 _ rfl
 have zY:W.heap.size < W6.heap.size:=HD.out.hs
 clear hfr h6 h7 bY hb6
 simp only [Act.put,K,R,T]
 go_wp2_with fail
 with_reducible refine (KO.out W6 HD.out.bel).mono ?_
 rintro e w7 ⟨hop,hb7⟩
 obtain ⟨u,rfl,a8,c8,rfl,ho⟩:=hop
 obtain ⟨W8,hst,b8,o8,z8,k8⟩:=Qhz (w:=w7) (Y:=W.heap.size) (k:=1) (O:=zO) OC.zero (by rw [hb7.block _ zY]; exact HD.out.bY)
 have hX8:W8.heap[w1.heap.size]?=U (E #[V J 0,V J 0,I a9 0 c9] 38 (0,0)):=by
  rw [o8 _ (by have:=HD.out.hY; omega),hb7.block _ (by have:=HD.out.hY; omega)]; exact HD.out.bX
 have hX:=Qai hX8
 have zX8:w1.heap.size < W8.heap.size:=(Q.1 hX8).1
 have r0:W8.cell? ⟨w1.heap.size,0,Z⟩=U (V J 0):=by have:=hX 0 _ rfl; simpa using this
 have r1:W8.cell? ⟨w1.heap.size,1,Z⟩=U (V J 0):=by have:=hX 1 _ rfl; simpa using this
 have r2:W8.cell? ⟨w1.heap.size,2,Z⟩=U (I a9 0 c9):=by have:=hX 2 _ rfl; simpa using this
 have ff:∀ j,W8.frozen? ⟨w1.heap.size,j,Z⟩=false:=fun j=>by simp [World.frozen?,hX8]
 have f0:=ff 0
 have f1:=ff 1
 have f2:=ff 2
 have HST:=Qaa hst
 have zx:w1.heap.size≠W.heap.size∧w.heap.size+2≤w1.heap.size∧w1.heap.size < W.heap.size:=by have:=HD.out.hX; have:=HD.out.hY; omega
 have h9M:(W8.setCells w1.heap.size 0 [V J (k:Int),V J (s:Int),I a8 dl c8]).heap[w.heap.size]?=U (E zM 40 (0,0)):=by
  rw [Qax (by omega),o8 _ (by omega),hb7.block _ (by omega)]; exact HD.out.bM
 have h9N:(W8.setCells w1.heap.size 0 [V J (k:Int),V J (s:Int),I a8 dl c8]).heap[w.heap.size+1]?=U (E #[V J 0,V J 0,I Z 0 0] 38 (0,0)):=by
  rw [Qax (by omega),o8 _ (by omega),hb7.block _ (by omega)]; exact HD.out.bN
 have h9X:(W8.setCells w1.heap.size 0 [V J (k:Int),V J (s:Int),I a8 dl c8]).heap[w1.heap.size]?=U (E #[V J (k:Int),V J (s:Int),I a8 dl c8] 38 (0,0)):=Qex (C:=#[V J (k:Int),V J (s:Int),I a8 dl c8]) hX8 rfl
 have h9Y:(W8.setCells w1.heap.size 0 [V J (k:Int),V J (s:Int),I a8 dl c8]).heap[W.heap.size]?=U (E (openMsg 1 zO) 40 (0,0)):=by
  rw [Qax (by omega)]; exact b8
 have k9:Qae (fun x=>x=W.heap.size∨x=w1.heap.size) w7 (W8.setCells w1.heap.size 0 [V J (k:Int),V J (s:Int),I a8 dl c8]):=(k8.mono (fun x _ e=>.inl e)).setCells _ 0 _ (.inl (.inr rfl))
 have b9:Below w.heap.size w (W8.setCells w1.heap.size 0 [V J (k:Int),V J (s:Int),I a8 dl c8]):=(HD.out.bel.trans (hb7.mono HD.out.bel.size)).trans (k9.below _ (by have:=HD.out.bel.size; have:=hb7.size; omega) (fun x e=>by omega))
 have z9:(W8.setCells w1.heap.size 0 [V J (k:Int),V J (s:Int),I a8 dl c8]).heap.size=w7.heap.size:=by
  have:∀ (vs:List Value) (o:Nat) (w:World),(w.setCells w1.heap.size o vs).heap.size=w.heap.size:=by
   intro vs
   induction vs with
   | nil=>intro o w; rfl
   | cons v r ih=>intro o w; rw [World.setCells,ih]; simp
  rw [this,z8]
 have HOW9:Hid ((W8.setCells w1.heap.size 0 [V J (k:Int),V J (s:Int),I a8 dl c8]).ownsRow W6.heap.size 5 1 (I a8 dl c8) dl (Qal d)):=Qas ho k9 (fun x hx=>by omega)
 have x9:(W8.setCells w1.heap.size 0 [V J (k:Int),V J (s:Int),I a8 dl c8]).cell? ⟨w1.heap.size,0,Z⟩=U (V J (k:Int)):=by have:=Qai h9X 0 _ rfl; simpa using this
 have H9M:=Qaa h9M
 have H9N:=Qaa h9N
 have H9X:=Qaa h9X
 have H9Y:=Qaa h9Y
 have B9:=Qaa b9
 have Z9:=Qaa z9
 have zXx:w1.heap.size < (W8.setCells w1.heap.size 0 [V J (k:Int),V J (s:Int),I a8 dl c8]).heap.size:=(Q.1 h9X).1
 have zYx:W.heap.size < (W8.setCells w1.heap.size 0 [V J (k:Int),V J (s:Int),I a8 dl c8]).heap.size:=(Q.1 h9Y).1
 clear h9M h9N h9X h9Y b9 z9 hst b8 o8 z8 k8 hX8 hX k9 ff hb7
 obtain ⟨W9,hW9⟩:∃ W9,W9=W8.setCells w1.heap.size 0 [V J (k:Int),V J (s:Int),I a8 dl c8]:=⟨_,rfl⟩
 rw [← hW9] at H9M H9N H9X H9Y B9 Z9 x9 zXx zYx HOW9
 go_wp2_with (refine Qbx _ _ (.pointer (U ⟨W.heap.size,1,Z⟩)) (.agg zO) (by rfl) (by rfl) HST.out ?_)
 show Code.wp _ _ _ _ (W8.setCells w1.heap.size 0 [V J (k:Int),V J (s:Int),I a8 dl c8])
 rw [← hW9]
 clear hW9
 refine Qcp _ W9 w.heap.size (w.heap.size+1) 40 zM zM #[V J 0,V J 0,I Z 0 0] #[V J (k:Int),V J (s:Int),I a8 dl c8] 71 72 _ _ (opi rfl) (opi rfl) (opi rfl) (opi rfl) rfl (by kernel_rfl) (by kernel_rfl) (by kernel_rfl) (by kernel_rfl) (by kernel_rfl) (by kernel_rfl) (by kernel_rfl) (by kernel_rfl)
  (fun ty po af W' _=>Qdf W') (fun ty po af W' hW=>Qbw (g:=w1.heap.size) (by rfl) (by
   rw [hW.block _ zXx (by omega)]; exact H9X.out)) rfl rfl (show 71 < 75 by decide) (show 72 < 75 by decide) (by decide) H9M.out H9N.out (by omega) rfl rfl infoM infoN MC.zero.2 (by simp [Value.oneCell']) ?_
 simp only [Act.put,K,R,T]
 have HRM:Hid (((({ W9 with drawn:=W9.drawn+1 } : World).setCells w.heap.size 0 zM.toList).setCells (w.heap.size+1) 0 (#[Value.int J (k:Int),V J (s:Int),I a8 dl c8]:Array Value).toList).rangeAt w.heap.size 0 zM.toList):=Qb7 (Qb2 (w:={ W9 with drawn:=W9.drawn+1 }) H9M.out (Nat.le_of_eq (MC.zero.1.trans MC.zero.1.symm))) (by omega)
 have HRN:Hid (((({ W9 with drawn:=W9.drawn+1 } : World).setCells w.heap.size 0 zM.toList).setCells (w.heap.size+1) 0 (#[Value.int J (k:Int),V J (s:Int),I a8 dl c8]:Array Value).toList).rangeAt (w.heap.size+1) 0 (#[Value.int J (k:Int),V J (s:Int),I a8 dl c8]:Array Value).toList) :=
  Qb2 (C0:=#[V J 0,V J 0,I Z 0 0]) (t:=38) (by rw [Qax (by omega)]; exact H9N.out) (by simp)
 have HKe:Hid (Qae (fun x=>x=w.heap.size∨x=w.heap.size+1) W9 ((({ W9 with drawn:=W9.drawn+1 } : World).setCells w.heap.size 0 zM.toList).setCells (w.heap.size+1) 0 (#[Value.int J (k:Int),V J (s:Int),I a8 dl c8]:Array Value).toList)) :=
  (Qae.setCells (w:=W9) (w1:={ W9 with drawn:=W9.drawn+1 }) ⟨rfl,rfl,rfl,Nat.le_refl _,fun _ _ _=>rfl⟩ _ 0 _ (.inl (.inl rfl))).setCells _ 0 _ (.inl (.inr rfl))
 generalize ((({ W9 with drawn:=W9.drawn+1 } : World).setCells w.heap.size 0 zM.toList).setCells (w.heap.size+1) 0 (#[Value.int J (k:Int),V J (s:Int),I a8 dl c8]:Array Value).toList)=WE at *
 go_wp2_with fail
 refine bodyPost_ret (v:=.tuple #[.agg zM,.agg #[V J (k:Int),V J (s:Int),I a8 dl c8]]) (Qar Tryz.results7 _ WE w.heap.size (w.heap.size+1) zM _ rfl rfl HRM.out HRN.out Tryz.underlying40 rfl infoM Tryz.underlying38 rfl infoN) rfl ⟨⟨_,rfl,a8,c8,rfl,Qa0 (Qas HOW9.out HKe.out (fun x hx=>by omega)) (by have:=HD.out.bel.size; omega)⟩,B9.out.trans (HKe.out.below _ B9.out.size (fun x e=>by omega))⟩
theorem Ql5 (g o n cp:Nat)(bs:List Nat)(w:World)(hn:bs.length=n)(hn29:29≤n)(hl:n≤5000)(hcap:n≤cp)(h:BRd w (U ⟨g,o,Z⟩) bs)(hS:Qdb w)(hr:Qa6 bs=(n,0,0,[]))(hk1:bs.getD 18 0=1)(AV:Int)(hh ii:Nat)(cc:Cp)(ho:Qgu (bs.drop 19)=.inr (AV,hh,ii,cc)) :
  Calls D 7 #[I (U ⟨g,o,Z⟩) n cp] w fun e w'=>e=.returned (.tuple #[.agg (openMsg 1 (Qce AV hh ii cc)),.agg #[V J 0,V J 0,I Z 0 0]])∧Below w.heap.size w w':=by
 have KH:=Qes (U ⟨g,o,Z⟩) cp bs w (by omega) (by omega) h hS _ hr
 rw [hn] at KH
 have HK:=Qaa KH
 obtain ⟨g',o',e9,hc⟩:=h.1.2 (by omega)
 cases e9
 have c18:w.cell? ⟨g,o+18,Z⟩=U (V .u8 1):=by rw [hc 18 (by omega)]; show U (Value.int .u8 ((bs.getD 18 0:Nat):Int))=_; rw [hk1]; rfl
 have zg:=World.block_lt_of_cell? w _ c18
 simp only at zg
 have KO:Hid (∀ X,Below w.heap.size w X→Calls D 21 #[I (U ⟨g,o+19,Z⟩) (n - 19) (cp - 19)] X fun e w'=>Qp0 X w' e (Qgu (bs.drop 19))∧Below X.heap.size X w'):=fun X hX =>
  Qio g (o+19) (n - 19) (cp - 19) (bs.drop 19) X (by rw [List.length_drop,hn]) (by omega) (by omega) (by omega) (Qds (h.below hX) (by omega))
 have hcp19:¬ cp=19:=by omega
 have hni:¬ ((n:Int) < 19):=by omega
 have H29:Hid (29≤n∧n≤5000):=⟨hn29,hl⟩
 clear KH h hS hcap hr hn hk1 hc hl hn29
 simp only at HK
 rw [ho] at KO
 unfold Qp0 at KO
 simp only at KO
 clear ho
 go_enter Tryz.func7,Tryz.ntmps7
 go_wp2_with (refine Qah _ (Qav w) ?_)
 show Calls D 19 #[I (U ⟨g,o,Z⟩) n cp] (dW w) _
 with_reducible refine HK.out.mono ?_
 rintro e w1 ⟨a9,c9,rfl,HO,HB⟩
 have HH:=Qaa (Qen a9 0 c9 HB.out zg c18)
 go_wp2_with fail
 generalize (w1.alloc (E #[V J 0,V J 0,I a9 0 c9] 38))=W at *
 refine Qgn _ W g o n cp 1 (opi rfl) (opi rfl) (opi rfl) (opi rfl) (opi rfl) (opi rfl) (opi rfl) (opi rfl) (opi rfl) (opi rfl) rfl (by kernel_rfl)
  (by kernel_rfl) (by kernel_rfl) (by kernel_rfl) (by kernel_rfl) (by kernel_rfl) (by kernel_rfl) (by kernel_rfl) (by kernel_rfl) (by kernel_rfl) (by kernel_rfl) (by kernel_rfl)
  rfl rfl (by have:=H29.out.1; omega) (by have:=H29.out.2; omega) (by omega) HH.out.c18 ?_
 intro a W6 hfr h6 h7 bY hb6
 rw [if_neg hcp19] at h7
 obtain ⟨x0,x1,x2,x3,x4,x5,x6,rfl⟩:=hfr.lay9m (by exact (by decide:∀ s∈[29,30,31,32,33,34,35,6,7],s < 75)) h6 h7
 have HD:Hid (D6 w W6 w1.heap.size W.heap.size (Qbt 1 0 0 (I Z 0 0)) (I a9 0 c9)):=HH.out.d6 bY hb6
 have hsz:=HH.out.le
 have y0:W6.cell? ⟨W.heap.size,0,Z⟩=U (V J 1):=Qai HD.out.bY 0 _ rfl
 have zY:W.heap.size < W6.heap.size:=HD.out.hs
 clear hfr h6 h7 bY hb6
 simp only [Act.put,K,R,T]
 go_wp2_with fail
 with_reducible refine (KO.out W6 HD.out.bel).mono ?_
 rintro e w7 ⟨hop,hb7⟩
 subst hop
 obtain ⟨W8,hst,b8,o8,z8,k8⟩:=Qhz (w:=w7) (Y:=W.heap.size) (k:=1) (O:=(Qce AV hh ii cc)) (OC.made AV hh ii cc) (by rw [hb7.block _ zY]; exact HD.out.bY)
 have hX8:W8.heap[w1.heap.size]?=U (E #[V J 0,V J 0,I a9 0 c9] 38 (0,0)):=by
  rw [o8 _ (by have:=HD.out.hY; omega),hb7.block _ (by have:=HD.out.hY; omega)]; exact HD.out.bX
 have hX:=Qai hX8
 have zX8:w1.heap.size < W8.heap.size:=(Q.1 hX8).1
 have r0:W8.cell? ⟨w1.heap.size,0,Z⟩=U (V J 0):=by have:=hX 0 _ rfl; simpa using this
 have r1:W8.cell? ⟨w1.heap.size,1,Z⟩=U (V J 0):=by have:=hX 1 _ rfl; simpa using this
 have r2:W8.cell? ⟨w1.heap.size,2,Z⟩=U (I a9 0 c9):=by have:=hX 2 _ rfl; simpa using this
 have ff:∀ j,W8.frozen? ⟨w1.heap.size,j,Z⟩=false:=fun j=>by simp [World.frozen?,hX8]
 have f0:=ff 0
 have f1:=ff 1
 have f2:=ff 2
 have HST:=Qaa hst
 have zx:w1.heap.size≠W.heap.size∧w.heap.size+2≤w1.heap.size∧w1.heap.size < W.heap.size:=by have:=HD.out.hX; have:=HD.out.hY; omega
 have h9M:(W8.setCells w1.heap.size 0 [V J 0,V J 0,I Z 0 0]).heap[w.heap.size]?=U (E zM 40 (0,0)):=by
  rw [Qax (by omega),o8 _ (by omega),hb7.block _ (by omega)]; exact HD.out.bM
 have h9N:(W8.setCells w1.heap.size 0 [V J 0,V J 0,I Z 0 0]).heap[w.heap.size+1]?=U (E #[V J 0,V J 0,I Z 0 0] 38 (0,0)):=by
  rw [Qax (by omega),o8 _ (by omega),hb7.block _ (by omega)]; exact HD.out.bN
 have h9X:(W8.setCells w1.heap.size 0 [V J 0,V J 0,I Z 0 0]).heap[w1.heap.size]?=U (E #[V J 0,V J 0,I Z 0 0] 38 (0,0)):=Qex (C:=#[V J 0,V J 0,I Z 0 0]) hX8 rfl
 have h9Y:(W8.setCells w1.heap.size 0 [V J 0,V J 0,I Z 0 0]).heap[W.heap.size]?=U (E (openMsg 1 (Qce AV hh ii cc)) 40 (0,0)):=by
  rw [Qax (by omega)]; exact b8
 have k9:Qae (fun x=>x=W.heap.size∨x=w1.heap.size) w7 (W8.setCells w1.heap.size 0 [V J 0,V J 0,I Z 0 0]):=(k8.mono (fun x _ e=>.inl e)).setCells _ 0 _ (.inl (.inr rfl))
 have b9:Below w.heap.size w (W8.setCells w1.heap.size 0 [V J 0,V J 0,I Z 0 0]):=(HD.out.bel.trans (hb7.mono HD.out.bel.size)).trans (k9.below _ (by have:=HD.out.bel.size; have:=hb7.size; omega) (fun x e=>by omega))
 have z9:(W8.setCells w1.heap.size 0 [V J 0,V J 0,I Z 0 0]).heap.size=w7.heap.size:=by
  have:∀ (vs:List Value) (o:Nat) (w:World),(w.setCells w1.heap.size o vs).heap.size=w.heap.size:=by
   intro vs
   induction vs with
   | nil=>intro o w; rfl
   | cons v r ih=>intro o w; rw [World.setCells,ih]; simp
  rw [this,z8]
 have x9:(W8.setCells w1.heap.size 0 [V J 0,V J 0,I Z 0 0]).cell? ⟨w1.heap.size,0,Z⟩=U (V J 0):=by have:=Qai h9X 0 _ rfl; simpa using this
 have H9M:=Qaa h9M
 have H9N:=Qaa h9N
 have H9X:=Qaa h9X
 have H9Y:=Qaa h9Y
 have B9:=Qaa b9
 have Z9:=Qaa z9
 have zXx:w1.heap.size < (W8.setCells w1.heap.size 0 [V J 0,V J 0,I Z 0 0]).heap.size:=(Q.1 h9X).1
 have zYx:W.heap.size < (W8.setCells w1.heap.size 0 [V J 0,V J 0,I Z 0 0]).heap.size:=(Q.1 h9Y).1
 clear h9M h9N h9X h9Y b9 z9 hst b8 o8 z8 k8 hX8 hX k9 ff hb7
 obtain ⟨W9,hW9⟩:∃ W9,W9=W8.setCells w1.heap.size 0 [V J 0,V J 0,I Z 0 0]:=⟨_,rfl⟩
 rw [← hW9] at H9M H9N H9X H9Y B9 Z9 x9 zXx zYx
 go_wp2_with (refine Qbx _ _ (.pointer (U ⟨W.heap.size,1,Z⟩)) (.agg (Qce AV hh ii cc)) (by rfl) (by rfl) HST.out ?_)
 show Code.wp _ _ _ _ (W8.setCells w1.heap.size 0 [V J 0,V J 0,I Z 0 0])
 rw [← hW9]
 clear hW9
 refine Qcp _ W9 w.heap.size (w.heap.size+1) 40 zM (openMsg 1 (Qce AV hh ii cc)) #[V J 0,V J 0,I Z 0 0] #[V J 0,V J 0,I Z 0 0] 73 74 _ _ (opi rfl) (opi rfl) (opi rfl) (opi rfl) rfl (by kernel_rfl) (by kernel_rfl) (by kernel_rfl) (by kernel_rfl) (by kernel_rfl) (by kernel_rfl) (by kernel_rfl) (by kernel_rfl)
  (fun ty po af W' hW=>Qeb (MC.openMsg 1 (OC.made AV hh ii cc)) (g:=W.heap.size) (by rfl) (Qai (by rw [hW.block _ zYx (by omega)]; exact H9Y.out))) (fun ty po af W' hW=>Qbw (g:=w1.heap.size) (by rfl) (by
   rw [hW.block _ zXx (by omega)]; exact H9X.out)) rfl rfl (show 73 < 75 by decide) (show 74 < 75 by decide) (by decide) H9M.out H9N.out (by omega) (by rw [(MC.openMsg 1 (OC.made AV hh ii cc)).1,MC.zero.1]) rfl (by rw [infoM,(MC.openMsg 1 (OC.made AV hh ii cc)).1]) infoN (MC.openMsg 1 (OC.made AV hh ii cc)).2 (by simp [Value.oneCell']) ?_
 simp only [Act.put,K,R,T]
 have HRM:Hid (((({ W9 with drawn:=W9.drawn+1 } : World).setCells w.heap.size 0 (openMsg 1 (Qce AV hh ii cc)).toList).setCells (w.heap.size+1) 0 (#[Value.int J 0,V J 0,I Z 0 0]:Array Value).toList).rangeAt w.heap.size 0 (openMsg 1 (Qce AV hh ii cc)).toList):=Qb7 (Qb2 (w:={ W9 with drawn:=W9.drawn+1 }) H9M.out (Nat.le_of_eq ((MC.openMsg 1 (OC.made AV hh ii cc)).1.trans MC.zero.1.symm))) (by omega)
 have HRN:Hid (((({ W9 with drawn:=W9.drawn+1 } : World).setCells w.heap.size 0 (openMsg 1 (Qce AV hh ii cc)).toList).setCells (w.heap.size+1) 0 (#[Value.int J 0,V J 0,I Z 0 0]:Array Value).toList).rangeAt (w.heap.size+1) 0 (#[Value.int J 0,V J 0,I Z 0 0]:Array Value).toList) :=
  Qb2 (C0:=#[V J 0,V J 0,I Z 0 0]) (t:=38) (by rw [Qax (by omega)]; exact H9N.out) (by simp)
 have HKe:Hid (Qae (fun x=>x=w.heap.size∨x=w.heap.size+1) W9 ((({ W9 with drawn:=W9.drawn+1 } : World).setCells w.heap.size 0 (openMsg 1 (Qce AV hh ii cc)).toList).setCells (w.heap.size+1) 0 (#[Value.int J 0,V J 0,I Z 0 0]:Array Value).toList)) :=
  (Qae.setCells (w:=W9) (w1:={ W9 with drawn:=W9.drawn+1 }) ⟨rfl,rfl,rfl,Nat.le_refl _,fun _ _ _=>rfl⟩ _ 0 _ (.inl (.inl rfl))).setCells _ 0 _ (.inl (.inr rfl))
 generalize ((({ W9 with drawn:=W9.drawn+1 } : World).setCells w.heap.size 0 (openMsg 1 (Qce AV hh ii cc)).toList).setCells (w.heap.size+1) 0 (#[Value.int J 0,V J 0,I Z 0 0]:Array Value).toList)=WE at *
 go_wp2_with fail
 refine bodyPost_ret (v:=.tuple #[.agg (openMsg 1 (Qce AV hh ii cc)),.agg #[V J 0,V J 0,I Z 0 0]]) (Qar Tryz.results7 _ WE w.heap.size (w.heap.size+1) (openMsg 1 (Qce AV hh ii cc)) _ rfl rfl HRM.out HRN.out Tryz.underlying40 rfl (by rw [infoM,(MC.openMsg 1 (OC.made AV hh ii cc)).1]) Tryz.underlying38 rfl infoN) rfl ⟨rfl,B9.out.trans (HKe.out.below _ B9.out.size (fun x e=>by omega))⟩
end
theorem Qiu (g o n cp:Nat)(bs:List Nat)(w:World)(hn:bs.length=n)(hn29:29≤n)(hl:n≤5000)(hcap:n≤cp)(h:BRd w (U ⟨g,o,Z⟩) bs)(hS:Qdb w)(hr:Qa6 bs=(n,0,0,[]))(hk1:bs.getD 18 0=1) :
  Calls D 7 #[I (U ⟨g,o,Z⟩) n cp] w fun e w'=>Jb0 w w' e (Qgu (bs.drop 19))∧Below w.heap.size w w':=by
 unfold Jb0
 cases ho:Qgu (bs.drop 19) with
 | inl x =>
  obtain ⟨k,s,d⟩:=x
  have hk:k≠0:=by
   intro e
   subst e
   unfold Qgu at ho
   repeat' split at ho
   all_goals simp at ho
  exact Qmu g o n cp bs w hn hn29 hl hcap h hS hr hk1 k s d hk ho
 | inr x =>
  obtain ⟨AV,hh,ii,cc⟩:=x
  exact Ql5 g o n cp bs w hn hn29 hl hcap h hS hr hk1 AV hh ii cc ho
