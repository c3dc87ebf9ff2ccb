import Derived.Test.YtdojlejehjbliaaGreatDoorPA26
namespace Go.Proofs.YtdojlejehjbliaaGreatDoor
set_option maxHeartbeats 4000000
set_option linter.unnecessarySimpa false
open _root_.Go.IntKind renaming i64 → I
open _root_.Go.Value renaming int → J,slice → V,bool → M
open _root_.Option renaming none → Z,some → K
open _root_.Array renaming getElem?_eq_some_iff → Q
open _root_.Go.Proofs.Tryz renaming prog → E
open _root_.Go.Obj renaming cells → D
open _root_.List renaming setIfInBounds_toArray → R,set_cons_zero → T,set_cons_succ → L
open Go.RowKit
set_option maxRecDepth 100000
def zO12:Array Value:=#[J I 0,J I 0,J .u32 0,M false,J I 0,M false,M false,J I 0,M false,M false,M false,J I 0]
def updMsg (k:Int)(U:Array Value):Array Value:=#[J I k]++zO12++U++#[J I 0,J I 0,V Z 0 0]
theorem MC.updMsg (k:Int){U:Array Value}(h:UC U):MC (updMsg k U):=by
 refine ⟨by simp [Proofs.YtdojlejehjbliaaGreatDoor.updMsg,zO12,h.1],?_⟩
 have h2:=h.2
 unfold Proofs.YtdojlejehjbliaaGreatDoor.updMsg
 simp only [Array.all_append,h2]
 simp [Value.oneCell',zO12]
/-- An UPDATE is stored into the message's box. -/
theorem Qiv {w:World}{Y:Nat}{k:Int}{U:Array Value} (hU:UC U) (h:w.heap[Y]?=K (D (Qbt k 0 0 (V Z 0 0)) 40 (0,0))) :
  ∃ W8,(Instr.storeAt 36 (.pointer (K ⟨Y,13,Z⟩)) (.agg U)).run E w=.ok () W8∧W8.heap[Y]?=K (D (updMsg k U) 40 (0,0))∧(∀ j,j≠Y→W8.heap[j]?=w.heap[j]?)∧W8.heap.size=w.heap.size∧Qae (fun x=>x=Y) w W8:=by
 have ht:w.there Y 13 U.size:=fun j hj=>by
  rw [hU.1] at hj
  refine ⟨?_,by simp [World.frozen?,h]⟩
  have:13+j < (Qbt k 0 0 (V Z 0 0)).size:=by show 13+j < 25; omega
  simp only [World.cell?,h]
  rw [Array.getElem?_eq_getElem this]
  rfl
 have hk:Qae (fun x=>x=Y) w (w.setCells Y 13 U.toList):=(Qae.refl _ _).setCells Y 13 _ (.inl rfl)
 have hsz:∀ (vs:List Value) (o:Nat) (w:World),(w.setCells Y o vs).heap.size=w.heap.size:=by
  intro vs
  induction vs with
  | nil=>intro o w; rfl
  | cons v r ih=>intro o w; rw [World.setCells,ih]; simp
 refine ⟨w.setCells Y 13 U.toList,run_storeAt_mid (P:=E) w Y 13 36 U ht (by rw [infoU,hU.1]) hU.2,?_,fun j hj=>?_,hsz _ _ _,hk⟩
 ·obtain ⟨C',h2,h3⟩:=Qfr U.toList 13 w _ h
  have hin:=World.rangeAt_setCells_same w Y 13 U.toList (by simpa using ht)
  have hC:∀ j,C'[j]?=(w.setCells Y 13 U.toList).cell? ⟨Y,j,Z⟩:=fun j=>by simp [World.cell?,h2]
  have h0:∀ j,(Qbt k 0 0 (V Z 0 0))[j]?=w.cell? ⟨Y,j,Z⟩:=fun j=>by simp [World.cell?,h]
  have e13:(#[Value.int I k]++zO12).size=13:=by simp [zO12]
  have eL:(#[Value.int I k]++zO12)=(#[J I k,J I 0,J I 0,J .u32 0,M false,J I 0,M false,M false,J I 0,M false,M false,M false,J I 0]:Array Value):=by simp [zO12]
  have hs9:=hU.1
  have e22:(#[Value.int I k]++zO12++U).size=22:=by rw [Array.size_append,e13,hs9]
  have:C'=updMsg k U:=by
   apply Array.ext_getElem?
   intro j
   rw [hC]
   unfold updMsg
   by_cases hj:13≤j∧j < 22
   ·have h5:=hin (j - 13) U[j - 13] (by rw [Array.getElem?_toList,Array.getElem?_eq_getElem (by omega)])
    rw [show 13+(j - 13)=j by omega] at h5
    rw [h5,Array.getElem?_append_left (by omega),Array.getElem?_append_right (by omega),e13,Array.getElem?_eq_getElem (show j - 13 < U.size by omega)]
   ·rw [World.cell?_setCells_out Y U.toList 13 w ⟨Y,j,Z⟩ (fun _ _=>by show j < 13∨13+U.toList.length≤j; simp [hs9]; omega),← h0]
    by_cases hj0:j < 13
    ·rw [Array.getElem?_append_left (by omega),Array.getElem?_append_left (by omega),eL]
     rcases (by omega:j=0∨j=1∨j=2∨j=3∨j=4∨j=5∨j=6∨j=7∨j=8∨j=9∨j=10∨j=11∨j=12) with rfl | rfl | rfl | rfl | rfl | rfl | rfl | rfl | rfl | rfl | rfl | rfl | rfl <;> rfl
    ·rw [Array.getElem?_append_right (by omega),e22]
     by_cases h25:j < 25
     ·rcases (by omega:j=22∨j=23∨j=24) with rfl | rfl | rfl <;> rfl
     ·rw [Array.getElem?_eq_none (by show 25≤j; omega),Array.getElem?_eq_none (by show 3≤j - 22; omega)]
  rw [h2,this]
 ·by_cases hjj:j < w.heap.size
  ·exact hk.block j hjj hj
  ·rw [Array.getElem?_eq_none (by rw [hsz]; omega),Array.getElem?_eq_none (by omega)]
def Qoe (B:Nat)(G N:List (Nat×Nat))(v u:Value)(A:Array Value)(r:Option At)(w:World):Prop:=w.ownsRow B 94 2 v G.length (pcells G)∧w.ownsRow B 94 2 u N.length (pcells N)∧match r with
 | none=>A=zA7
 | some b=>Qha w B A b
theorem Qha.keep {F:Nat→Prop}{w w':World}{B:Nat}{A:Array Value}{b:At} (h:Qha w B A b) (hk:Qae F w w') (hF:∀ x,B≤x→¬ F x):Qha w' B A b:=by
 obtain ⟨p1,k1,p5,k5,p6,k6,e,h1,h2,h3⟩:=h
 exact ⟨p1,k1,p5,k5,p6,k6,e,h1.keep hk hF,Qas h2 hk hF,h3.keeps hk hF⟩
theorem Qha.base {w:World}{B B':Nat}{A:Array Value}{b:At} (h:Qha w B A b) (hB:B'≤B):Qha w B' A b:=by
 obtain ⟨p1,k1,p5,k5,p6,k6,e,h1,h2,h3⟩:=h
 exact ⟨p1,k1,p5,k5,p6,k6,e,h1.base hB,Qan h2 hB,h3.base hB⟩
theorem Qoe.keep {F:Nat→Prop}{w w':World}{B:Nat}{G N:List (Nat×Nat)}{v u:Value}{A:Array Value}{r:Option At} (h:Qoe B G N v u A r w) (hk:Qae F w w') (hF:∀ x,B≤x→¬ F x):Qoe B G N v u A r w':=by
 refine ⟨Qas h.1 hk hF,Qas h.2.1 hk hF,?_⟩
 cases r with
 | none=>exact h.2.2
 | some b=>exact Qha.keep h.2.2 hk hF
theorem Qoe.base {w:World}{B B':Nat}{G N:List (Nat×Nat)}{v u:Value}{A:Array Value}{r:Option At} (h:Qoe B G N v u A r w) (hB:B'≤B):Qoe B' G N v u A r w:=by
 refine ⟨Qan h.1 hB,Qan h.2.1 hB,?_⟩
 cases r with
 | none=>exact h.2.2
 | some b=>exact Qha.base h.2.2 hB
theorem Qjj {w:World}{B e size n:Nat}{v:Value}{xs:List Value} (h:w.ownsRow B e size v n xs):v.oneCell'=true:=by
 obtain ⟨a,c,rfl⟩:=Qcd h
 rfl
theorem Qto {f:FuncId}{args:Array Value}{X:World}{G N:List (Nat×Nat)}{r:Option At} (h:Calls E f args X fun e w'=>Ja4 X w' e (.inr (G,N,r))∧Below X.heap.size X w') :
  Calls E f args X fun e w'=>(∃ v u A,e=.returned (.tuple #[.agg (Qct v A u),.agg #[J I 0,J I 0,V Z 0 0]])∧UC (Qct v A u)∧Qoe X.heap.size G N v u A r w')∧Below X.heap.size X w':=by
 refine h.mono ?_
 rintro e w' ⟨hu,hb⟩
 cases r with
 | none =>
  obtain ⟨v,u,e1,h1,h2⟩:=hu
  exact ⟨⟨v,u,zA7,e1,UC.upd (Qjj h1) (Qjj h2) rfl (by simp [zA7,Value.oneCell']),h1,h2,rfl⟩,hb⟩
 | some b =>
  obtain ⟨A,⟨v,u,e1,h1,h2⟩,h3⟩:=hu
  have h4:=h3
  obtain ⟨p1,k1,p5,k5,p6,k6,rfl,_⟩:=h3
  exact ⟨⟨v,u,_,e1,UC.upd (Qjj h1) (Qjj h2) rfl (by simp [Value.oneCell']),h1,h2,h4⟩,hb⟩
section
attribute [local go_sem ↓] Qbe Qba keptM_alloc Qbb Qdv
theorem Qsd (g o n cp:Nat)(bs:List Nat)(w:World)(hn:bs.length=n)(hn23:23≤n)(hl:n≤5000)(hcap:n≤cp)(h:BRd w (K ⟨g,o,Z⟩) bs)(hS:Qdb w)(hA:Qfa w)(hr:Qa6 bs=(n,0,0,[]))(hk2:bs.getD 18 0=2)(k s:Nat)(d:List Nat)(hk:k≠0)(ho:upR (bs.drop 19)=.inl (k,s,d)) :
  Calls E 7 #[V (K ⟨g,o,Z⟩) n cp] w fun e w'=>Qdd w w' e k s d∧Below w.heap.size w w':=by
 have KH:=Qes (K ⟨g,o,Z⟩) cp bs w (by omega) (by omega) h hS _ hr
 rw [hn] at KH
 have HK:=Qaa KH
 obtain ⟨g',o',e9,hc⟩:=h.1.2 (by omega)
 cases e9
 have c18:w.cell? ⟨g,o+18,Z⟩=K (J .u8 2):=by rw [hc 18 (by omega)]; show K (Value.int .u8 ((bs.getD 18 0:Nat):Int))=_; rw [hk2]; rfl
 have zg:=World.block_lt_of_cell? w _ c18
 simp only at zg
 have KO:Hid (∀ X,Below w.heap.size w X→Calls E 22 #[V (K ⟨g,o+19,Z⟩) (n - 19) (cp - 19)] X fun e w'=>Ja4 X w' e (upR (bs.drop 19))∧Below X.heap.size X w'):=fun X hX =>
  Qld (K ⟨g,o+19,Z⟩) (n - 19) (cp - 19) (bs.drop 19) X (by rw [List.length_drop,hn]) (by omega) (by omega) (Qds (h.below hX) (by omega)) (hA.below hX)
 have hcp19:¬ cp=19:=by omega
 have hni:¬ ((n:Int) < 19):=by omega
 have H29:Hid (23≤n∧n≤5000):=⟨hn23,hl⟩
 clear KH h hS hA hcap hr hn hk2 hc hl hn23
 simp only at HK
 rw [ho] at KO
 unfold Ja4 Qks Qby at KO
 unfold Qdd Qby
 simp only at KO
 have hkz:((k:Int) != 0)=true:=by simp; omega
 clear ho
 generalize d.length=dl at *
 go_enter Tryz.func7,Tryz.ntmps7
 go_wp2_with (refine Qah _ (Qav w) ?_)
 show Calls E 19 #[V (K ⟨g,o,Z⟩) n cp] (dW w) _
 with_reducible refine HK.out.mono ?_
 rintro e w1 ⟨a9,c9,rfl,HO,HB⟩
 have HH:=Qaa (Qen a9 0 c9 HB.out zg c18)
 go_wp2_with fail
 generalize (w1.alloc (D #[J I 0,J I 0,V a9 0 c9] 38))=W at *
 refine Qgn _ W g o n cp 2 (opi rfl) (opi rfl) (opi rfl) (opi rfl) (opi rfl) (opi rfl) (opi rfl) (opi rfl) (opi rfl) (opi rfl) rfl (by kernel_rfl)
  (by kernel_rfl) (by kernel_rfl) (by kernel_rfl) (by kernel_rfl) (by kernel_rfl) (by kernel_rfl) (by kernel_rfl) (by kernel_rfl) (by kernel_rfl) (by kernel_rfl) (by kernel_rfl)
  rfl rfl (by have:=H29.out.1; omega) (by have:=H29.out.2; omega) (by omega) HH.out.c18 ?_
 intro a W6 hfr h6 h7 bY hb6
 rw [if_neg hcp19] at h7
 obtain ⟨x0,x1,x2,x3,x4,x5,x6,rfl⟩:=hfr.lay9m (by exact (by decide:∀ s∈[29,30,31,32,33,34,35,6,7],s < 75)) h6 h7
 have HD:Hid (D6 w W6 w1.heap.size W.heap.size (Qbt 2 0 0 (V Z 0 0)) (V a9 0 c9)):=HH.out.d6 bY hb6
 have hsz:=HH.out.le
 have y0:W6.cell? ⟨W.heap.size,0,Z⟩=K (J I 2):=Qai HD.out.bY 0 _ rfl
 have zY:W.heap.size < W6.heap.size:=HD.out.hs
 clear hfr h6 h7 bY hb6
 simp only [Act.put,R,T,L]
 go_wp2_with fail
 with_reducible refine (KO.out W6 HD.out.bel).mono ?_
 rintro e w7 ⟨hop,hb7⟩
 obtain ⟨u,rfl,a8,c8,rfl,ho⟩:=hop
 obtain ⟨W8,hst,b8,o8,z8,k8⟩:=Qiv (w:=w7) (Y:=W.heap.size) (k:=2) (U:=zU) UC.zero (by rw [hb7.block _ zY]; exact HD.out.bY)
 have hX8:W8.heap[w1.heap.size]?=K (D #[J I 0,J I 0,V a9 0 c9] 38 (0,0)):=by
  rw [o8 _ (by have:=HD.out.hY; omega),hb7.block _ (by have:=HD.out.hY; omega)]; exact HD.out.bX
 have hX:=Qai hX8
 have zX8:w1.heap.size < W8.heap.size:=(Q.1 hX8).1
 have r0:W8.cell? ⟨w1.heap.size,0,Z⟩=K (J I 0):=by have:=hX 0 _ rfl; simpa using this
 have r1:W8.cell? ⟨w1.heap.size,1,Z⟩=K (J I 0):=by have:=hX 1 _ rfl; simpa using this
 have r2:W8.cell? ⟨w1.heap.size,2,Z⟩=K (V a9 0 c9):=by have:=hX 2 _ rfl; simpa using this
 have ff:∀ j,W8.frozen? ⟨w1.heap.size,j,Z⟩=false:=fun j=>by simp [World.frozen?,hX8]
 have f0:=ff 0
 have f1:=ff 1
 have f2:=ff 2
 have HST:=Qaa hst
 have zx:w1.heap.size≠W.heap.size∧w.heap.size+2≤w1.heap.size∧w1.heap.size < W.heap.size:=by have:=HD.out.hX; have:=HD.out.hY; omega
 have h9M:(W8.setCells w1.heap.size 0 [J I (k:Int),J I (s:Int),V a8 dl c8]).heap[w.heap.size]?=K (D zM 40 (0,0)):=by
  rw [Qax (by omega),o8 _ (by omega),hb7.block _ (by omega)]; exact HD.out.bM
 have h9N:(W8.setCells w1.heap.size 0 [J I (k:Int),J I (s:Int),V a8 dl c8]).heap[w.heap.size+1]?=K (D #[J I 0,J I 0,V Z 0 0] 38 (0,0)):=by
  rw [Qax (by omega),o8 _ (by omega),hb7.block _ (by omega)]; exact HD.out.bN
 have h9X:(W8.setCells w1.heap.size 0 [J I (k:Int),J I (s:Int),V a8 dl c8]).heap[w1.heap.size]?=K (D #[J I (k:Int),J I (s:Int),V a8 dl c8] 38 (0,0)):=Qex (C:=#[J I (k:Int),J I (s:Int),V a8 dl c8]) hX8 rfl
 have h9Y:(W8.setCells w1.heap.size 0 [J I (k:Int),J I (s:Int),V a8 dl c8]).heap[W.heap.size]?=K (D (updMsg 2 zU) 40 (0,0)):=by
  rw [Qax (by omega)]; exact b8
 have k9:Qae (fun x=>x=W.heap.size∨x=w1.heap.size) w7 (W8.setCells w1.heap.size 0 [J I (k:Int),J I (s:Int),V a8 dl c8]):=(k8.mono (fun x _ e=>.inl e)).setCells _ 0 _ (.inl (.inr rfl))
 have b9:Below w.heap.size w (W8.setCells w1.heap.size 0 [J I (k:Int),J I (s:Int),V a8 dl c8]):=(HD.out.bel.trans (hb7.mono HD.out.bel.size)).trans (k9.below _ (by have:=HD.out.bel.size; have:=hb7.size; omega) (fun x e=>by omega))
 have z9:(W8.setCells w1.heap.size 0 [J I (k:Int),J I (s:Int),V a8 dl c8]).heap.size=w7.heap.size:=by
  have:∀ (vs:List Value) (o:Nat) (w:World),(w.setCells w1.heap.size o vs).heap.size=w.heap.size:=by
   intro vs
   induction vs with
   | nil=>intro o w; rfl
   | cons v r ih=>intro o w; rw [World.setCells,ih]; simp
  rw [this,z8]
 have HOW9:Hid ((W8.setCells w1.heap.size 0 [J I (k:Int),J I (s:Int),V a8 dl c8]).ownsRow W6.heap.size 5 1 (V a8 dl c8) dl (Qal d)):=Qas ho k9 (fun x hx=>by omega)
 have x9:(W8.setCells w1.heap.size 0 [J I (k:Int),J I (s:Int),V a8 dl c8]).cell? ⟨w1.heap.size,0,Z⟩=K (J I (k:Int)):=by have:=Qai h9X 0 _ rfl; simpa using this
 have H9M:=Qaa h9M
 have H9N:=Qaa h9N
 have H9X:=Qaa h9X
 have H9Y:=Qaa h9Y
 have B9:=Qaa b9
 have Z9:=Qaa z9
 have zXx:w1.heap.size < (W8.setCells w1.heap.size 0 [J I (k:Int),J I (s:Int),V a8 dl c8]).heap.size:=(Q.1 h9X).1
 have zYx:W.heap.size < (W8.setCells w1.heap.size 0 [J I (k:Int),J I (s:Int),V a8 dl c8]).heap.size:=(Q.1 h9Y).1
 clear h9M h9N h9X h9Y b9 z9 hst b8 o8 z8 k8 hX8 hX k9 ff hb7
 obtain ⟨W9,hW9⟩:∃ W9,W9=W8.setCells w1.heap.size 0 [J I (k:Int),J I (s:Int),V a8 dl c8]:=⟨_,rfl⟩
 rw [← hW9] at H9M H9N H9X H9Y B9 Z9 x9 zXx zYx HOW9
 go_wp2_with (refine Qa4 _ _ (.pointer (K ⟨W.heap.size,13,Z⟩)) (.agg zU) (by rfl) (by rfl) HST.out ?_)
 show Code.wp _ _ _ _ (W8.setCells w1.heap.size 0 [J I (k:Int),J I (s:Int),V a8 dl c8])
 rw [← hW9]
 clear hW9
 refine Qcp _ W9 w.heap.size (w.heap.size+1) 40 zM zM #[J I 0,J I 0,V Z 0 0] #[J I (k:Int),J I (s:Int),V a8 dl c8] 71 72 _ _ (opi rfl) (opi rfl) (opi rfl) (opi rfl) rfl (by kernel_rfl) (by kernel_rfl) (by kernel_rfl) (by kernel_rfl) (by kernel_rfl) (by kernel_rfl) (by kernel_rfl) (by kernel_rfl)
  (fun ty po af W' _=>Qdf W') (fun ty po af W' hW=>Qbw (g:=w1.heap.size) (by rfl) (by
   rw [hW.block _ zXx (by omega)]; exact H9X.out)) rfl rfl (show 71 < 75 by decide) (show 72 < 75 by decide) (by decide) H9M.out H9N.out (by omega) rfl rfl infoM infoN MC.zero.2 (by simp [Value.oneCell']) ?_
 simp only [Act.put,R,T,L]
 have HRM:Hid (((({ W9 with drawn:=W9.drawn+1 } : World).setCells w.heap.size 0 zM.toList).setCells (w.heap.size+1) 0 (#[Value.int I (k:Int),J I (s:Int),V a8 dl c8]:Array Value).toList).rangeAt w.heap.size 0 zM.toList):=Qb7 (Qb2 (w:={ W9 with drawn:=W9.drawn+1 }) H9M.out (Nat.le_of_eq (MC.zero.1.trans MC.zero.1.symm))) (by omega)
 have HRN:Hid (((({ W9 with drawn:=W9.drawn+1 } : World).setCells w.heap.size 0 zM.toList).setCells (w.heap.size+1) 0 (#[Value.int I (k:Int),J I (s:Int),V a8 dl c8]:Array Value).toList).rangeAt (w.heap.size+1) 0 (#[Value.int I (k:Int),J I (s:Int),V a8 dl c8]:Array Value).toList) :=
  Qb2 (C0:=#[J I 0,J I 0,V Z 0 0]) (t:=38) (by rw [Qax (by omega)]; exact H9N.out) (by simp)
 have HKe:Hid (Qae (fun x=>x=w.heap.size∨x=w.heap.size+1) W9 ((({ W9 with drawn:=W9.drawn+1 } : World).setCells w.heap.size 0 zM.toList).setCells (w.heap.size+1) 0 (#[Value.int I (k:Int),J I (s:Int),V a8 dl c8]:Array Value).toList)) :=
  (Qae.setCells (w:=W9) (w1:={ W9 with drawn:=W9.drawn+1 }) ⟨rfl,rfl,rfl,Nat.le_refl _,fun _ _ _=>rfl⟩ _ 0 _ (.inl (.inl rfl))).setCells _ 0 _ (.inl (.inr rfl))
 generalize ((({ W9 with drawn:=W9.drawn+1 } : World).setCells w.heap.size 0 zM.toList).setCells (w.heap.size+1) 0 (#[Value.int I (k:Int),J I (s:Int),V a8 dl c8]:Array Value).toList)=WE at *
 go_wp2_with fail
 refine bodyPost_ret (v:=.tuple #[.agg zM,.agg #[J I (k:Int),J I (s:Int),V a8 dl c8]]) (Qar Tryz.results7 _ WE w.heap.size (w.heap.size+1) zM _ rfl rfl HRM.out HRN.out Tryz.underlying40 rfl infoM Tryz.underlying38 rfl infoN) rfl ⟨⟨_,rfl,a8,c8,rfl,Qa0 (Qas HOW9.out HKe.out (fun x hx=>by omega)) (by have:=HD.out.bel.size; omega)⟩,B9.out.trans (HKe.out.below _ B9.out.size (fun x e=>by omega))⟩
theorem Qpi (g o n cp:Nat)(bs:List Nat)(w:World)(hn:bs.length=n)(hn23:23≤n)(hl:n≤5000)(hcap:n≤cp)(h:BRd w (K ⟨g,o,Z⟩) bs)(hS:Qdb w)(hA:Qfa w)(hr:Qa6 bs=(n,0,0,[]))(hk2:bs.getD 18 0=2)(G N:List (Nat×Nat))(r:Option At)(ho:upR (bs.drop 19)=.inr (G,N,r)) :
  Calls E 7 #[V (K ⟨g,o,Z⟩) n cp] w fun e w'=>(∃ v u A,e=.returned (.tuple #[.agg (updMsg 2 (Qct v A u)),.agg #[J I 0,J I 0,V Z 0 0]])∧Qoe w.heap.size G N v u A r w')∧Below w.heap.size w w':=by
 have KH:=Qes (K ⟨g,o,Z⟩) cp bs w (by omega) (by omega) h hS _ hr
 rw [hn] at KH
 have HK:=Qaa KH
 obtain ⟨g',o',e9,hc⟩:=h.1.2 (by omega)
 cases e9
 have c18:w.cell? ⟨g,o+18,Z⟩=K (J .u8 2):=by rw [hc 18 (by omega)]; show K (Value.int .u8 ((bs.getD 18 0:Nat):Int))=_; rw [hk2]; rfl
 have zg:=World.block_lt_of_cell? w _ c18
 simp only at zg
 have KO:Hid (∀ X,Below w.heap.size w X→Calls E 22 #[V (K ⟨g,o+19,Z⟩) (n - 19) (cp - 19)] X fun e w'=>Ja4 X w' e (upR (bs.drop 19))∧Below X.heap.size X w'):=fun X hX =>
  Qld (K ⟨g,o+19,Z⟩) (n - 19) (cp - 19) (bs.drop 19) X (by rw [List.length_drop,hn]) (by omega) (by omega) (Qds (h.below hX) (by omega)) (hA.below hX)
 have hcp19:¬ cp=19:=by omega
 have hni:¬ ((n:Int) < 19):=by omega
 have H29:Hid (23≤n∧n≤5000):=⟨hn23,hl⟩
 clear KH h hS hA hcap hr hn hk2 hc hl hn23
 simp only at HK
 rw [ho] at KO
 have KO:=Qaa (fun X hX=>Qto (KO.out X hX))
 clear ho
 go_enter Tryz.func7,Tryz.ntmps7
 go_wp2_with (refine Qah _ (Qav w) ?_)
 show Calls E 19 #[V (K ⟨g,o,Z⟩) n cp] (dW w) _
 with_reducible refine HK.out.mono ?_
 rintro e w1 ⟨a9,c9,rfl,HO,HB⟩
 have HH:=Qaa (Qen a9 0 c9 HB.out zg c18)
 go_wp2_with fail
 generalize (w1.alloc (D #[J I 0,J I 0,V a9 0 c9] 38))=W at *
 refine Qgn _ W g o n cp 2 (opi rfl) (opi rfl) (opi rfl) (opi rfl) (opi rfl) (opi rfl) (opi rfl) (opi rfl) (opi rfl) (opi rfl) rfl (by kernel_rfl)
  (by kernel_rfl) (by kernel_rfl) (by kernel_rfl) (by kernel_rfl) (by kernel_rfl) (by kernel_rfl) (by kernel_rfl) (by kernel_rfl) (by kernel_rfl) (by kernel_rfl) (by kernel_rfl)
  rfl rfl (by have:=H29.out.1; omega) (by have:=H29.out.2; omega) (by omega) HH.out.c18 ?_
 intro a W6 hfr h6 h7 bY hb6
 rw [if_neg hcp19] at h7
 obtain ⟨x0,x1,x2,x3,x4,x5,x6,rfl⟩:=hfr.lay9m (by exact (by decide:∀ s∈[29,30,31,32,33,34,35,6,7],s < 75)) h6 h7
 have HD:Hid (D6 w W6 w1.heap.size W.heap.size (Qbt 2 0 0 (V Z 0 0)) (V a9 0 c9)):=HH.out.d6 bY hb6
 have hsz:=HH.out.le
 have y0:W6.cell? ⟨W.heap.size,0,Z⟩=K (J I 2):=Qai HD.out.bY 0 _ rfl
 have zY:W.heap.size < W6.heap.size:=HD.out.hs
 clear hfr h6 h7 bY hb6
 simp only [Act.put,R,T,L]
 go_wp2_with fail
 with_reducible refine (KO.out W6 HD.out.bel).mono ?_
 rintro e w7 ⟨hop,hb7⟩
 obtain ⟨v,u,A,rfl,hUC,hown⟩:=hop
 obtain ⟨W8,hst,b8,o8,z8,k8⟩:=Qiv (w:=w7) (Y:=W.heap.size) (k:=2) (U:=(Qct v A u)) hUC (by rw [hb7.block _ zY]; exact HD.out.bY)
 have hX8:W8.heap[w1.heap.size]?=K (D #[J I 0,J I 0,V a9 0 c9] 38 (0,0)):=by
  rw [o8 _ (by have:=HD.out.hY; omega),hb7.block _ (by have:=HD.out.hY; omega)]; exact HD.out.bX
 have hX:=Qai hX8
 have zX8:w1.heap.size < W8.heap.size:=(Q.1 hX8).1
 have r0:W8.cell? ⟨w1.heap.size,0,Z⟩=K (J I 0):=by have:=hX 0 _ rfl; simpa using this
 have r1:W8.cell? ⟨w1.heap.size,1,Z⟩=K (J I 0):=by have:=hX 1 _ rfl; simpa using this
 have r2:W8.cell? ⟨w1.heap.size,2,Z⟩=K (V a9 0 c9):=by have:=hX 2 _ rfl; simpa using this
 have ff:∀ j,W8.frozen? ⟨w1.heap.size,j,Z⟩=false:=fun j=>by simp [World.frozen?,hX8]
 have f0:=ff 0
 have f1:=ff 1
 have f2:=ff 2
 have HST:=Qaa hst
 have zx:w1.heap.size≠W.heap.size∧w.heap.size+2≤w1.heap.size∧w1.heap.size < W.heap.size:=by have:=HD.out.hX; have:=HD.out.hY; omega
 have h9M:(W8.setCells w1.heap.size 0 [J I 0,J I 0,V Z 0 0]).heap[w.heap.size]?=K (D zM 40 (0,0)):=by
  rw [Qax (by omega),o8 _ (by omega),hb7.block _ (by omega)]; exact HD.out.bM
 have h9N:(W8.setCells w1.heap.size 0 [J I 0,J I 0,V Z 0 0]).heap[w.heap.size+1]?=K (D #[J I 0,J I 0,V Z 0 0] 38 (0,0)):=by
  rw [Qax (by omega),o8 _ (by omega),hb7.block _ (by omega)]; exact HD.out.bN
 have h9X:(W8.setCells w1.heap.size 0 [J I 0,J I 0,V Z 0 0]).heap[w1.heap.size]?=K (D #[J I 0,J I 0,V Z 0 0] 38 (0,0)):=Qex (C:=#[J I 0,J I 0,V Z 0 0]) hX8 rfl
 have h9Y:(W8.setCells w1.heap.size 0 [J I 0,J I 0,V Z 0 0]).heap[W.heap.size]?=K (D (updMsg 2 (Qct v A u)) 40 (0,0)):=by
  rw [Qax (by omega)]; exact b8
 have k9:Qae (fun x=>x=W.heap.size∨x=w1.heap.size) w7 (W8.setCells w1.heap.size 0 [J I 0,J I 0,V Z 0 0]):=(k8.mono (fun x _ e=>.inl e)).setCells _ 0 _ (.inl (.inr rfl))
 have b9:Below w.heap.size w (W8.setCells w1.heap.size 0 [J I 0,J I 0,V Z 0 0]):=(HD.out.bel.trans (hb7.mono HD.out.bel.size)).trans (k9.below _ (by have:=HD.out.bel.size; have:=hb7.size; omega) (fun x e=>by omega))
 have z9:(W8.setCells w1.heap.size 0 [J I 0,J I 0,V Z 0 0]).heap.size=w7.heap.size:=by
  have:∀ (vs:List Value) (o:Nat) (w:World),(w.setCells w1.heap.size o vs).heap.size=w.heap.size:=by
   intro vs
   induction vs with
   | nil=>intro o w; rfl
   | cons v r ih=>intro o w; rw [World.setCells,ih]; simp
  rw [this,z8]
 have OW9:=Qaa (hown.keep k9 (fun x hx=>by omega))
 have x9:(W8.setCells w1.heap.size 0 [J I 0,J I 0,V Z 0 0]).cell? ⟨w1.heap.size,0,Z⟩=K (J I 0):=by have:=Qai h9X 0 _ rfl; simpa using this
 have H9M:=Qaa h9M
 have H9N:=Qaa h9N
 have H9X:=Qaa h9X
 have H9Y:=Qaa h9Y
 have B9:=Qaa b9
 have Z9:=Qaa z9
 have zXx:w1.heap.size < (W8.setCells w1.heap.size 0 [J I 0,J I 0,V Z 0 0]).heap.size:=(Q.1 h9X).1
 have zYx:W.heap.size < (W8.setCells w1.heap.size 0 [J I 0,J I 0,V Z 0 0]).heap.size:=(Q.1 h9Y).1
 clear h9M h9N h9X h9Y b9 z9 hst b8 o8 z8 k8 hX8 hX k9 ff hb7
 obtain ⟨W9,hW9⟩:∃ W9,W9=W8.setCells w1.heap.size 0 [J I 0,J I 0,V Z 0 0]:=⟨_,rfl⟩
 rw [← hW9] at H9M H9N H9X H9Y B9 Z9 x9 zXx zYx OW9
 go_wp2_with (refine Qa4 _ _ (.pointer (K ⟨W.heap.size,13,Z⟩)) (.agg (Qct v A u)) (by rfl) (by rfl) HST.out ?_)
 show Code.wp _ _ _ _ (W8.setCells w1.heap.size 0 [J I 0,J I 0,V Z 0 0])
 rw [← hW9]
 clear hW9
 refine Qcp _ W9 w.heap.size (w.heap.size+1) 40 zM (updMsg 2 (Qct v A u)) #[J I 0,J I 0,V Z 0 0] #[J I 0,J I 0,V Z 0 0] 73 74 _ _ (opi rfl) (opi rfl) (opi rfl) (opi rfl) rfl (by kernel_rfl) (by kernel_rfl) (by kernel_rfl) (by kernel_rfl) (by kernel_rfl) (by kernel_rfl) (by kernel_rfl) (by kernel_rfl)
  (fun ty po af W' hW=>Qeb (MC.updMsg 2 hUC) (g:=W.heap.size) (by rfl) (Qai (by rw [hW.block _ zYx (by omega)]; exact H9Y.out))) (fun ty po af W' hW=>Qbw (g:=w1.heap.size) (by rfl) (by
   rw [hW.block _ zXx (by omega)]; exact H9X.out)) rfl rfl (show 73 < 75 by decide) (show 74 < 75 by decide) (by decide) H9M.out H9N.out (by omega) (by rw [(MC.updMsg 2 hUC).1,MC.zero.1]) rfl (by rw [infoM,(MC.updMsg 2 hUC).1]) infoN (MC.updMsg 2 hUC).2 (by simp [Value.oneCell']) ?_
 simp only [Act.put,R,T,L]
 have HRM:Hid (((({ W9 with drawn:=W9.drawn+1 } : World).setCells w.heap.size 0 (updMsg 2 (Qct v A u)).toList).setCells (w.heap.size+1) 0 (#[Value.int I 0,J I 0,V Z 0 0]:Array Value).toList).rangeAt w.heap.size 0 (updMsg 2 (Qct v A u)).toList):=Qb7 (Qb2 (w:={ W9 with drawn:=W9.drawn+1 }) H9M.out (Nat.le_of_eq ((MC.updMsg 2 hUC).1.trans MC.zero.1.symm))) (by omega)
 have HRN:Hid (((({ W9 with drawn:=W9.drawn+1 } : World).setCells w.heap.size 0 (updMsg 2 (Qct v A u)).toList).setCells (w.heap.size+1) 0 (#[Value.int I 0,J I 0,V Z 0 0]:Array Value).toList).rangeAt (w.heap.size+1) 0 (#[Value.int I 0,J I 0,V Z 0 0]:Array Value).toList) :=
  Qb2 (C0:=#[J I 0,J I 0,V Z 0 0]) (t:=38) (by rw [Qax (by omega)]; exact H9N.out) (by simp)
 have HKe:Hid (Qae (fun x=>x=w.heap.size∨x=w.heap.size+1) W9 ((({ W9 with drawn:=W9.drawn+1 } : World).setCells w.heap.size 0 (updMsg 2 (Qct v A u)).toList).setCells (w.heap.size+1) 0 (#[Value.int I 0,J I 0,V Z 0 0]:Array Value).toList)) :=
  (Qae.setCells (w:=W9) (w1:={ W9 with drawn:=W9.drawn+1 }) ⟨rfl,rfl,rfl,Nat.le_refl _,fun _ _ _=>rfl⟩ _ 0 _ (.inl (.inl rfl))).setCells _ 0 _ (.inl (.inr rfl))
 generalize ((({ W9 with drawn:=W9.drawn+1 } : World).setCells w.heap.size 0 (updMsg 2 (Qct v A u)).toList).setCells (w.heap.size+1) 0 (#[Value.int I 0,J I 0,V Z 0 0]:Array Value).toList)=WE at *
 go_wp2_with fail
 refine bodyPost_ret (v:=.tuple #[.agg (updMsg 2 (Qct v A u)),.agg #[J I 0,J I 0,V Z 0 0]]) (Qar Tryz.results7 _ WE w.heap.size (w.heap.size+1) (updMsg 2 (Qct v A u)) _ rfl rfl HRM.out HRN.out Tryz.underlying40 rfl (by rw [infoM,(MC.updMsg 2 hUC).1]) Tryz.underlying38 rfl infoN) rfl ⟨⟨v,u,A,rfl,(OW9.out.keep HKe.out (fun x hx=>by omega)).base (by have:=HD.out.bel.size; omega)⟩,B9.out.trans (HKe.out.below _ B9.out.size (fun x e=>by omega))⟩
end
theorem Quq {W:World}{X:Nat} (h:W.heap[X]?=K (D #[J I 0,J I 0,V Z 0 0] 38 (0,0))):Qc3 W X:=by
 have hr:=Qai h
 have hf:∀ j,W.frozen? ⟨X,j,Z⟩=false:=fun j=>by simp [World.frozen?,h]
 exact ⟨(Q.1 h).1,by have:=hr 0 _ rfl; simpa using this,by have:=hr 1 _ rfl; simpa using this,by have:=hr 2 _ rfl; simpa using this,hf 0,hf 1,hf 2⟩
structure MW (w W:World):Prop where
 bM:W.heap[w.heap.size]?=K (D zM 40 (0,0))
 bN:W.heap[w.heap.size+1]?=K (D #[J I 0,J I 0,V Z 0 0] 38 (0,0))
 bel:Below w.heap.size w W
theorem MW.later {w W W':World}(h:MW w W)(hb:Below W.heap.size W W'):MW w W' :=
 ⟨by rw [hb.block _ (Q.1 h.bM).1]; exact h.bM,by rw [hb.block _ (Q.1 h.bN).1]; exact h.bN,h.bel.trans (hb.mono h.bel.size)⟩
theorem MW.made (w:World):MW w ((w.alloc (D zM 40)).alloc (D #[J I 0,J I 0,V Z 0 0] 38)):=by
 refine ⟨?_,?_,((Below.refl _ _).alloc (Nat.le_refl _) _).alloc (by simp) _⟩
 ·unfold World.alloc
  simp only
  rw [Array.getElem?_push_lt (by simp),Array.getElem_push_eq]
 ·unfold World.alloc
  simp only
  have:w.heap.size+1=(w.heap.push (D zM 40)).size:=by simp
  rw [this,Array.getElem?_push_size]
structure Jbf (w W5:World) (k s:Nat) (d:List Nat) (a9:Option Addr) (n c9:Nat):Prop where
 rM:(W5.setCells (w.heap.size+1) 0 [J I (k:Int),J I (s:Int),V a9 n c9]).rangeAt w.heap.size 0 zM.toList
 rN:(W5.setCells (w.heap.size+1) 0 [J I (k:Int),J I (s:Int),V a9 n c9]).rangeAt (w.heap.size+1) 0 [J I (k:Int),J I (s:Int),V a9 n c9]
 own:(W5.setCells (w.heap.size+1) 0 [J I (k:Int),J I (s:Int),V a9 n c9]).ownsRow w.heap.size 5 1 (V a9 n c9) n (Qal d)
 bel:Below w.heap.size w (W5.setCells (w.heap.size+1) 0 [J I (k:Int),J I (s:Int),V a9 n c9])
theorem Qy9 (w W:World)(hW:MW w W)(k s:Nat)(a:Option Addr)(cap n:Nat)(d:List Nat)(hn:d.length=n)(hl:n≤50000)(h:BRd W a d) :
  Calls E 20 #[J I (k:Int),J I (s:Int),V a n cap] W fun e w3=>∃ a9 c9 W5,e=.returned (.agg #[J I (k:Int),J I (s:Int),V a9 n c9])∧Hid ((Instr.storeAt 40 (.pointer (K ⟨w.heap.size,0,Z⟩)) (.agg zM)).run E w3=.ok () W5)∧Hid (Qc3 W5 (w.heap.size+1))∧Hid (Jbf w W5 k s d a9 n c9):=by
 subst hn
 refine (Qfp k s a cap d W hl h).mono ?_
 rintro e w3 ⟨u,rfl,⟨a9,c9,rfl,ho⟩,hb⟩
 have h3:=hW.later hb
 have h5:(w3.setCells w.heap.size 0 zM.toList).heap[w.heap.size]?=K (D zM 40 (0,0)):=Qex h3.bM rfl
 have h6:(w3.setCells w.heap.size 0 zM.toList).heap[w.heap.size+1]?=K (D #[J I 0,J I 0,V Z 0 0] 38 (0,0)):=by rw [Qax (by omega)]; exact h3.bN
 have hk:Qae (fun x=>x=w.heap.size∨x=w.heap.size+1) w3 ((w3.setCells w.heap.size 0 zM.toList).setCells (w.heap.size+1) 0 [J I (k:Int),J I (s:Int),V a9 d.length c9]):=((Qae.refl _ _).setCells _ 0 _ (.inl (.inl rfl))).setCells _ 0 _ (.inl (.inr rfl))
 have hsz:w.heap.size+1 < W.heap.size:=(Q.1 hW.bN).1
 refine ⟨a9,c9,_,rfl,Qd7 h3.bM rfl MC.zero,Quq h6,⟨Qb7 (Qai h5) (by omega),?_,?_,?_⟩⟩
 ·exact Qb2 (C0:=#[J I 0,J I 0,V Z 0 0]) (C:=#[J I (k:Int),J I (s:Int),V a9 d.length c9]) h6 (by simp)
 ·exact Qa0 (Qas ho hk (fun x hx=>by omega)) (by omega)
 ·exact h3.bel.trans (hk.below _ h3.bel.size (fun x e=>by omega))
section
attribute [local go_sem ↓] Qbe Qba keptM_alloc Qbb
theorem Qqw (a:Option Addr)(cp n:Nat)(bs:List Nat)(w:World)(hn:bs.length=n)(hl:bs.length≤100000)(hcap:bs.length≤cp)(h:BRd w a bs)(hS:Qdb w)(m:Nat)(hr:Qa6 bs=(m,0,0,[]))(hm:m≤5000)(hno:n < 19∨n≠m) :
  Calls E 7 #[V a n cp] w fun e w'=>Qdd w w' e 1 2 []∧Below w.heap.size w w':=by
 have KH:=Qes a cp bs w hl hcap h hS _ hr
 rw [hn] at KH
 have HK:=Qaa KH
 have HW:Hid (MW w (dW w)):=MW.made w
 have KE:Hid (∀ X,MW w X→Calls E 20 #[J I 1,J I 2,V Z 0 0] X fun e w3=>∃ a9 c9 W5,e=.returned (.agg #[J I 1,J I 2,V a9 0 c9])∧Hid ((Instr.storeAt 40 (.pointer (K ⟨w.heap.size,0,Z⟩)) (.agg zM)).run E w3=.ok () W5)∧Hid (Qc3 W5 (w.heap.size+1))∧Hid (Jbf w W5 1 2 [] a9 0 c9)):=fun X hX=>Qy9 w X hX 1 2 Z 0 0 [] rfl (by decide) (Qbf _ _)
 have hcase:((n:Int) < 19)∨(¬ ((n:Int) < 19)∧((n:Int) != (m:Int))=true):=by
  by_cases h9:n < 19
  ·exact .inl (by omega)
  ·refine .inr ⟨by omega,?_⟩
   have:n≠m:=by omega
   simp; omega
 clear KH h hS hl hcap hr hn hno
 simp only at HK
 unfold Qdd Qby
 go_enter Tryz.func7,Tryz.ntmps7
 go_wp2_with (refine Qah _ (Qav w) ?_)
 show Calls E 19 #[V a n cp] (dW w) _
 with_reducible refine HK.out.mono ?_
 rintro e w1 ⟨a9,c9,rfl,HO,HB⟩
 have HW1:Hid (MW w (w1.alloc (D #[J I 0,J I 0,V a9 0 c9] 38))):=by
  have hb:Below (dW w).heap.size (dW w) w1:=by rw [Qdm]; exact HB.out
  exact (HW.out.later hb).later ((Below.refl _ _).alloc (Nat.le_refl _) _)
 rcases hcase with h9 | ⟨h9,h8⟩
 ·go_wp2_with (refine Qaw _ (Qbp _) ?_)
  refine (KE.out _ HW1.out).mono ?_
  rintro e w3 ⟨a8,c8,W5,rfl,HST,HX,HF⟩
  obtain ⟨_,r0,r1,r2,f0,f1,f2⟩:=HX.out
  go_wp2_with (refine Qam _ _ (.pointer (K ⟨w.heap.size,0,Z⟩)) (.agg zM) (by rfl) (by rfl) HST.out ?_)
  refine bodyPost_ret (v:=.tuple #[.agg zM,.agg #[J I 1,J I 2,V a8 0 c8]]) (Qar Tryz.results7 _ _ w.heap.size (w.heap.size+1) zM #[J I 1,J I 2,V a8 0 c8] rfl rfl HF.out.rM HF.out.rN Tryz.underlying40 rfl infoM Tryz.underlying38 rfl infoN) rfl ⟨?_,HF.out.bel⟩
  exact ⟨_,rfl,a8,c8,rfl,HF.out.own⟩
 ·go_wp2_with (refine Qaw _ (Qbp _) ?_)
  refine (KE.out _ HW1.out).mono ?_
  rintro e w3 ⟨a8,c8,W5,rfl,HST,HX,HF⟩
  obtain ⟨_,r0,r1,r2,f0,f1,f2⟩:=HX.out
  go_wp2_with (refine Qam _ _ (.pointer (K ⟨w.heap.size,0,Z⟩)) (.agg zM) (by rfl) (by rfl) HST.out ?_)
  refine bodyPost_ret (v:=.tuple #[.agg zM,.agg #[J I 1,J I 2,V a8 0 c8]]) (Qar Tryz.results7 _ _ w.heap.size (w.heap.size+1) zM #[J I 1,J I 2,V a8 0 c8] rfl rfl HF.out.rM HF.out.rN Tryz.underlying40 rfl infoM Tryz.underlying38 rfl infoN) rfl ⟨?_,HF.out.bel⟩
  exact ⟨_,rfl,a8,c8,rfl,HF.out.own⟩
end
