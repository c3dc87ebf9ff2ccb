import Derived.Test.YtogbjeaceboemaaGreatDoorPA27
import Derived.Test.YtogbjeaceboemaaGreatDoorPA8
import Derived.Test.YtogbjeaceboemaaGreatDoorPA15
import Derived.Test.YtogbjeaceboemaaGreatDoorPA9
import Derived.Test.YtogbjeaceboemaaGreatDoorPA30
import Derived.Test.YtogbjeaceboemaaGreatDoorPA38
namespace Go.Proofs.YtogbjeaceboemaaGreatDoor
set_option linter.unnecessarySimpa false
open Go.RowKit
set_option maxRecDepth 100000
def upR (bs:List Nat):(Nat×Nat×List Nat) ⊕ (List (Nat×Nat)×List (Nat×Nat)×Option At):=match cutP 2 bs with
 | none=>.inl (3,1,[])
 | some (p,q)=>match cutP 2 q with
  | none=>.inl (3,1,[])
  | some (at_,nl)=>match pfxB p,pfxB nl with
   | some G,some N=>if N=[]∧at_=[] then .inr (G,[],none) else match readA at_ with
    | .inl (_,s,d)=>.inl (3,s,d)
    | .inr b=>.inr (G,N,if N=[] then none else some b)
   | _,_=>.inl (3,10,[])
def UpIs (w w':World)(e:Ending)(r:(Nat×Nat×List Nat) ⊕ (List (Nat×Nat)×List (Nat×Nat)×Option At)):Prop:=match r with
 | .inl (k,s,d)=>UpBad w w' e k s d
 | .inr (G,N,none)=>UpOk w w' e G N zA7
 | .inr (G,N,some b)=>∃ A,UpOk w w' e G N A∧AtOwn w' w.heap.size A b
theorem readup_any (a:Option Addr)(n c:Nat)(bs:List Nat)(w:World)(hn:bs.length=n)(hl:n≤5000)(hcap:n≤c)(h:BRd w a bs)(hS:Said w) :
  Calls Tryz.prog 26 #[.slice a n c] w fun e w'=>UpIs w w' e (upR bs)∧Below w.heap.size w w':=by
 unfold upR
 cases h1:cutP 2 bs with
 | none=>exact readup_cut1 a n c bs w hn hl hcap h h1
 | some pq =>
  obtain ⟨p,q⟩:=pq
  simp only
  have hq:=(cutP_len h1).2
  cases h2:cutP 2 q with
  | none=>exact readup_cut2 a n c bs p q w hn hl hcap h h1 (by omega) h2
  | some an =>
   obtain ⟨at_,nl⟩:=an
   simp only
   cases h3:pfxB p with
   | none=>exact readup_pfx a n c bs p q at_ nl w hn hl hcap h h1 h2 (by rw [h3]; rfl)
   | some G =>
    cases h4:pfxB nl with
    | none=>exact readup_pfx a n c bs p q at_ nl w hn hl hcap h h1 h2 (by rw [h3,h4]; rfl)
    | some N =>
     simp only
     by_cases h5:N=[]∧at_=[]
     ·rw [if_pos h5]
      obtain ⟨rfl,rfl⟩:=h5
      exact readup_none a n c bs p q nl w hn hl hcap h h1 h2 G h3 h4
     ·rw [if_neg h5]
      cases h6:readA at_ with
      | inl x =>
       obtain ⟨k,s,d⟩:=x
       exact readup_abad a n c bs p q at_ nl w hn hl hcap h h1 h2 hS G N h3 h4 h5 k s d h6
      | inr b =>
       simp only
       by_cases hN:N=[]
       ·rw [if_pos hN]
        subst hN
        exact readup_agood0 a n c bs p q at_ nl w hn hl hcap h h1 h2 hS G h3 h4 (fun e=>h5 ⟨rfl,e⟩) b h6
       ·rw [if_neg hN]
        exact readup_agood1 a n c bs p q at_ nl w hn hl hcap h h1 h2 hS G N h3 h4 hN b h6
def zO12:Array Value:=#[.int .i64 0,.int .i64 0,.int .u32 0,.bool false,.int .i64 0,.bool false,.bool false,.int .i64 0,.bool false,.bool false,.bool false,.int .i64 0]
def updMsg (k:Int)(U:Array Value):Array Value:=#[.int .i64 k]++zO12++U++#[.int .i64 0,.int .i64 0,.slice none 0 0]
theorem MC.updMsg (k:Int){U:Array Value}(h:UC U):MC (updMsg k U):=by
 refine ⟨by simp [Proofs.YtogbjeaceboemaaGreatDoor.updMsg,zO12,h.1],?_⟩
 have h2:=h.2
 unfold Proofs.YtogbjeaceboemaaGreatDoor.updMsg
 simp only [Array.all_append,h2]
 simp [Value.oneCell',zO12]
set_option maxHeartbeats 1600000 in
/-- An UPDATE is stored into the message's box. -/
theorem store_update {w:World}{Y:Nat}{k:Int}{U:Array Value} (hU:UC U) (h:w.heap[Y]?=some (.cells (msgC k 0 0 (.slice none 0 0)) 40 (0,0))) :
  ∃ W8,(Instr.storeAt 36 (.pointer (some ⟨Y,13,none⟩)) (.agg U)).run Tryz.prog w=.ok () W8∧W8.heap[Y]?=some (.cells (updMsg k U) 40 (0,0))∧(∀ j,j≠Y→W8.heap[j]?=w.heap[j]?)∧W8.heap.size=w.heap.size∧Keeps (fun x=>x=Y) w W8:=by
 have ht:w.there Y 13 U.size:=fun j hj=>by
  rw [hU.1] at hj
  refine ⟨?_,by simp [World.frozen?,h]⟩
  have:13+j < (msgC k 0 0 (.slice none 0 0)).size:=by show 13+j < 25; omega
  simp only [World.cell?,h]
  rw [Array.getElem?_eq_getElem this]
  rfl
 have hk:Keeps (fun x=>x=Y) w (w.setCells Y 13 U.toList):=(Keeps.refl _ _).setCells Y 13 _ (.inl rfl)
 have hsz:∀ (vs:List Value) (o:Nat) (w:World),(w.setCells Y o vs).heap.size=w.heap.size:=by
  intro vs
  induction vs with
  | nil=>intro o w; rfl
  | cons v r ih=>intro o w; rw [World.setCells,ih]; simp
 refine ⟨w.setCells Y 13 U.toList,run_storeAt_mid (P:=Tryz.prog) w Y 13 36 U ht (by rw [infoU,hU.1]) hU.2,?_,fun j hj=>?_,hsz _ _ _,hk⟩
 ·obtain ⟨C',h2,h3⟩:=shape_set U.toList 13 w _ h
  have hin:=World.rangeAt_setCells_same w Y 13 U.toList (by simpa using ht)
  have hC:∀ j,C'[j]?=(w.setCells Y 13 U.toList).cell? ⟨Y,j,none⟩:=fun j=>by simp [World.cell?,h2]
  have h0:∀ j,(msgC k 0 0 (.slice none 0 0))[j]?=w.cell? ⟨Y,j,none⟩:=fun j=>by simp [World.cell?,h]
  have e13:(#[Value.int .i64 k]++zO12).size=13:=by simp [zO12]
  have eL:(#[Value.int .i64 k]++zO12)=(#[.int .i64 k,.int .i64 0,.int .i64 0,.int .u32 0,.bool false,.int .i64 0,.bool false,.bool false,.int .i64 0,.bool false,.bool false,.bool false,.int .i64 0]:Array Value):=by simp [zO12]
  have hs9:=hU.1
  have e22:(#[Value.int .i64 k]++zO12++U).size=22:=by rw [Array.size_append,e13,hs9]
  have:C'=updMsg k U:=by
   apply Array.ext_getElem?
   intro j
   rw [hC]
   unfold updMsg
   by_cases hj:13≤j∧j < 22
   ·have h5:=hin (j - 13) U[j - 13] (by rw [Array.getElem?_toList,Array.getElem?_eq_getElem (by omega)])
    rw [show 13+(j - 13)=j by omega] at h5
    rw [h5,Array.getElem?_append_left (by omega),Array.getElem?_append_right (by omega),e13,Array.getElem?_eq_getElem (show j - 13 < U.size by omega)]
   ·rw [World.cell?_setCells_out Y U.toList 13 w ⟨Y,j,none⟩ (fun _ _=>by show j < 13∨13+U.toList.length≤j; simp [hs9]; omega),← h0]
    by_cases hj0:j < 13
    ·rw [Array.getElem?_append_left (by omega),Array.getElem?_append_left (by omega),eL]
     rcases (by omega:j=0∨j=1∨j=2∨j=3∨j=4∨j=5∨j=6∨j=7∨j=8∨j=9∨j=10∨j=11∨j=12) with rfl | rfl | rfl | rfl | rfl | rfl | rfl | rfl | rfl | rfl | rfl | rfl | rfl <;> rfl
    ·rw [Array.getElem?_append_right (by omega),e22]
     by_cases h25:j < 25
     ·rcases (by omega:j=22∨j=23∨j=24) with rfl | rfl | rfl <;> rfl
     ·rw [Array.getElem?_eq_none (by show 25≤j; omega),Array.getElem?_eq_none (by show 3≤j - 22; omega)]
  rw [h2,this]
 ·by_cases hjj:j < w.heap.size
  ·exact hk.block j hjj hj
  ·rw [Array.getElem?_eq_none (by rw [hsz]; omega),Array.getElem?_eq_none (by omega)]
def OwnX (B:Nat)(G N:List (Nat×Nat))(v u:Value)(A:Array Value)(r:Option At)(w:World):Prop:=w.ownsRow B 96 2 v G.length (pcells G)∧w.ownsRow B 96 2 u N.length (pcells N)∧match r with
 | none=>A=zA7
 | some b=>AtOwn w B A b
theorem AtOwn.keep {F:Nat→Prop}{w w':World}{B:Nat}{A:Array Value}{b:At} (h:AtOwn w B A b) (hk:Keeps F w w') (hF:∀ x,B≤x→¬ F x):AtOwn w' B A b:=by
 obtain ⟨p1,k1,p5,k5,p6,k6,e,h1,h2,h3⟩:=h
 exact ⟨p1,k1,p5,k5,p6,k6,e,h1.keep hk hF,own_keep h2 hk hF,h3.keeps hk hF⟩
theorem AtOwn.base {w:World}{B B':Nat}{A:Array Value}{b:At} (h:AtOwn w B A b) (hB:B'≤B):AtOwn w B' A b:=by
 obtain ⟨p1,k1,p5,k5,p6,k6,e,h1,h2,h3⟩:=h
 exact ⟨p1,k1,p5,k5,p6,k6,e,h1.base hB,own_base h2 hB,h3.base hB⟩
theorem OwnX.keep {F:Nat→Prop}{w w':World}{B:Nat}{G N:List (Nat×Nat)}{v u:Value}{A:Array Value}{r:Option At} (h:OwnX B G N v u A r w) (hk:Keeps F w w') (hF:∀ x,B≤x→¬ F x):OwnX B G N v u A r w':=by
 refine ⟨own_keep h.1 hk hF,own_keep h.2.1 hk hF,?_⟩
 cases r with
 | none=>exact h.2.2
 | some b=>exact AtOwn.keep h.2.2 hk hF
theorem OwnX.base {w:World}{B B':Nat}{G N:List (Nat×Nat)}{v u:Value}{A:Array Value}{r:Option At} (h:OwnX B G N v u A r w) (hB:B'≤B):OwnX B' G N v u A r w:=by
 refine ⟨own_base h.1 hB,own_base h.2.1 hB,?_⟩
 cases r with
 | none=>exact h.2.2
 | some b=>exact AtOwn.base h.2.2 hB
theorem own_onec {w:World}{B e size n:Nat}{v:Value}{xs:List Value} (h:w.ownsRow B e size v n xs):v.oneCell'=true:=by
 obtain ⟨a,c,rfl⟩:=own_slice h
 rfl
theorem upIs_good {f:FuncId}{args:Array Value}{X:World}{G N:List (Nat×Nat)}{r:Option At} (h:Calls Tryz.prog f args X fun e w'=>UpIs X w' e (.inr (G,N,r))∧Below X.heap.size X w') :
  Calls Tryz.prog f args X fun e w'=>(∃ v u A,e=.returned (.tuple #[.agg (updC v A u),.agg #[.int .i64 0,.int .i64 0,.slice none 0 0]])∧UC (updC v A u)∧OwnX X.heap.size G N v u A r w')∧Below X.heap.size X w':=by
 refine h.mono ?_
 rintro e w' ⟨hu,hb⟩
 cases r with
 | none =>
  obtain ⟨v,u,e1,h1,h2⟩:=hu
  exact ⟨⟨v,u,zA7,e1,UC.upd (own_onec h1) (own_onec h2) rfl (by simp [zA7,Value.oneCell']),h1,h2,rfl⟩,hb⟩
 | some b =>
  obtain ⟨A,⟨v,u,e1,h1,h2⟩,h3⟩:=hu
  have h4:=h3
  obtain ⟨p1,k1,p5,k5,p6,k6,rfl,_⟩:=h3
  exact ⟨⟨v,u,_,e1,UC.upd (own_onec h1) (own_onec h2) rfl (by simp [Value.oneCell']),h1,h2,h4⟩,hb⟩
section
attribute [local go_sem ↓] keptM_load keptM_store keptM_alloc keptM_build keptU_store
set_option maxHeartbeats 4000000 in
theorem dec_up_bad (g o n cp:Nat)(bs:List Nat)(w:World)(hn:bs.length=n)(hn23:23≤n)(hl:n≤5000)(hcap:n≤cp)(h:BRd w (some ⟨g,o,none⟩) bs)(hS:SaidM w)(hA:Said w)(hr:headM bs=(n,0,0,[]))(hk2:bs.getD 18 0=2)(k s:Nat)(d:List Nat)(hk:k≠0)(ho:upR (bs.drop 19)=.inl (k,s,d)) :
  Calls Tryz.prog 10 #[.slice (some ⟨g,o,none⟩) n cp] w fun e w'=>BadIs w w' e k s d∧Below w.heap.size w w':=by
 have KH:=head_dW (some ⟨g,o,none⟩) cp bs w (by omega) (by omega) h hS _ hr
 rw [hn] at KH
 have HK:=hide KH
 obtain ⟨g',o',e9,hc⟩:=h.1.2 (by omega)
 cases e9
 have c18:w.cell? ⟨g,o+18,none⟩=some (.int .u8 2):=by rw [hc 18 (by omega)]; show some (Value.int .u8 ((bs.getD 18 0:Nat):Int))=_; rw [hk2]; rfl
 have zg:=World.block_lt_of_cell? w _ c18
 simp only at zg
 have KO:Hid (∀ X,Below w.heap.size w X→Calls Tryz.prog 26 #[.slice (some ⟨g,o+19,none⟩) (n - 19) (cp - 19)] X fun e w'=>UpIs X w' e (upR (bs.drop 19))∧Below X.heap.size X w'):=fun X hX =>
  readup_any (some ⟨g,o+19,none⟩) (n - 19) (cp - 19) (bs.drop 19) X (by rw [List.length_drop,hn]) (by omega) (by omega) (brd_drop (h.below hX) (by omega)) (hA.below hX)
 have hcp19:¬ cp=19:=by omega
 have hni:¬ ((n:Int) < 19):=by omega
 have H29:Hid (23≤n∧n≤5000):=⟨hn23,hl⟩
 clear KH h hS hA hcap hr hn hk2 hc hl hn23
 simp only at HK
 rw [ho] at KO
 unfold UpIs UpBad NoteIs at KO
 unfold BadIs NoteIs
 simp only at KO
 have hkz:((k:Int) != 0)=true:=by simp; omega
 clear ho
 generalize d.length=dl at *
 go_enter Tryz.func10,Tryz.ntmps10
 go_wp2_with (refine keptM_alloc_intro _ (run_allocM w) ?_)
 show Calls Tryz.prog 23 #[.slice (some ⟨g,o,none⟩) n cp] (dW w) _
 with_reducible refine HK.out.mono ?_
 rintro e w1 ⟨a9,c9,rfl,HO,HB⟩
 have HH:=hide (h6_of a9 0 c9 HB.out zg c18)
 go_wp2_with fail
 generalize (w1.alloc (.cells #[.int .i64 0,.int .i64 0,.slice a9 0 c9] 38))=W at *
 refine m_region _ W g o n cp 2 (opi rfl) (opi rfl) (opi rfl) (opi rfl) (opi rfl) (opi rfl) (opi rfl) (opi rfl) (opi rfl) (opi rfl) rfl (by kernel_rfl)
  (by kernel_rfl) (by kernel_rfl) (by kernel_rfl) (by kernel_rfl) (by kernel_rfl) (by kernel_rfl) (by kernel_rfl) (by kernel_rfl) (by kernel_rfl) (by kernel_rfl) (by kernel_rfl)
  rfl rfl (by have:=H29.out.1; omega) (by have:=H29.out.2; omega) (by omega) HH.out.c18 ?_
 intro a W6 hfr h6 h7 bY hb6
 rw [if_neg hcp19] at h7
 obtain ⟨x0,x1,x2,x3,x4,x5,x6,rfl⟩:=hfr.lay9m (by exact (by decide:∀ s∈[29,30,31,32,33,34,35,6,7],s < 75)) h6 h7
 have HD:Hid (D6 w W6 w1.heap.size W.heap.size (msgC 2 0 0 (.slice none 0 0)) (.slice a9 0 c9)):=HH.out.d6 bY hb6
 have hsz:=HH.out.le
 have y0:W6.cell? ⟨W.heap.size,0,none⟩=some (.int .i64 2):=range_of HD.out.bY 0 _ rfl
 have zY:W.heap.size < W6.heap.size:=HD.out.hs
 clear hfr h6 h7 bY hb6
 simp only [Act.put,List.setIfInBounds_toArray,List.set_cons_zero,List.set_cons_succ]
 go_wp2_with fail
 with_reducible refine (KO.out W6 HD.out.bel).mono ?_
 rintro e w7 ⟨hop,hb7⟩
 obtain ⟨u,rfl,a8,c8,rfl,ho⟩:=hop
 obtain ⟨W8,hst,b8,o8,z8,k8⟩:=store_update (w:=w7) (Y:=W.heap.size) (k:=2) (U:=zU) UC.zero (by rw [hb7.block _ zY]; exact HD.out.bY)
 have hX8:W8.heap[w1.heap.size]?=some (.cells #[.int .i64 0,.int .i64 0,.slice a9 0 c9] 38 (0,0)):=by
  rw [o8 _ (by have:=HD.out.hY; omega),hb7.block _ (by have:=HD.out.hY; omega)]; exact HD.out.bX
 have hX:=range_of hX8
 have zX8:w1.heap.size < W8.heap.size:=(Array.getElem?_eq_some_iff.1 hX8).1
 have r0:W8.cell? ⟨w1.heap.size,0,none⟩=some (.int .i64 0):=by have:=hX 0 _ rfl; simpa using this
 have r1:W8.cell? ⟨w1.heap.size,1,none⟩=some (.int .i64 0):=by have:=hX 1 _ rfl; simpa using this
 have r2:W8.cell? ⟨w1.heap.size,2,none⟩=some (.slice a9 0 c9):=by have:=hX 2 _ rfl; simpa using this
 have ff:∀ j,W8.frozen? ⟨w1.heap.size,j,none⟩=false:=fun j=>by simp [World.frozen?,hX8]
 have f0:=ff 0
 have f1:=ff 1
 have f2:=ff 2
 have HST:=hide hst
 have zx:w1.heap.size≠W.heap.size∧w.heap.size+2≤w1.heap.size∧w1.heap.size < W.heap.size:=by have:=HD.out.hX; have:=HD.out.hY; omega
 have h9M:(W8.setCells w1.heap.size 0 [.int .i64 (k:Int),.int .i64 (s:Int),.slice a8 dl c8]).heap[w.heap.size]?=some (.cells zM 40 (0,0)):=by
  rw [heap_sets (by omega),o8 _ (by omega),hb7.block _ (by omega)]; exact HD.out.bM
 have h9N:(W8.setCells w1.heap.size 0 [.int .i64 (k:Int),.int .i64 (s:Int),.slice a8 dl c8]).heap[w.heap.size+1]?=some (.cells #[.int .i64 0,.int .i64 0,.slice none 0 0] 38 (0,0)):=by
  rw [heap_sets (by omega),o8 _ (by omega),hb7.block _ (by omega)]; exact HD.out.bN
 have h9X:(W8.setCells w1.heap.size 0 [.int .i64 (k:Int),.int .i64 (s:Int),.slice a8 dl c8]).heap[w1.heap.size]?=some (.cells #[.int .i64 (k:Int),.int .i64 (s:Int),.slice a8 dl c8] 38 (0,0)):=bx_put (C:=#[.int .i64 (k:Int),.int .i64 (s:Int),.slice a8 dl c8]) hX8 rfl
 have h9Y:(W8.setCells w1.heap.size 0 [.int .i64 (k:Int),.int .i64 (s:Int),.slice a8 dl c8]).heap[W.heap.size]?=some (.cells (updMsg 2 zU) 40 (0,0)):=by
  rw [heap_sets (by omega)]; exact b8
 have k9:Keeps (fun x=>x=W.heap.size∨x=w1.heap.size) w7 (W8.setCells w1.heap.size 0 [.int .i64 (k:Int),.int .i64 (s:Int),.slice a8 dl c8]):=(k8.mono (fun x _ e=>.inl e)).setCells _ 0 _ (.inl (.inr rfl))
 have b9:Below w.heap.size w (W8.setCells w1.heap.size 0 [.int .i64 (k:Int),.int .i64 (s:Int),.slice a8 dl c8]):=(HD.out.bel.trans (hb7.mono HD.out.bel.size)).trans (k9.below _ (by have:=HD.out.bel.size; have:=hb7.size; omega) (fun x e=>by omega))
 have z9:(W8.setCells w1.heap.size 0 [.int .i64 (k:Int),.int .i64 (s:Int),.slice a8 dl c8]).heap.size=w7.heap.size:=by
  have:∀ (vs:List Value) (o:Nat) (w:World),(w.setCells w1.heap.size o vs).heap.size=w.heap.size:=by
   intro vs
   induction vs with
   | nil=>intro o w; rfl
   | cons v r ih=>intro o w; rw [World.setCells,ih]; simp
  rw [this,z8]
 have HOW9:Hid ((W8.setCells w1.heap.size 0 [.int .i64 (k:Int),.int .i64 (s:Int),.slice a8 dl c8]).ownsRow W6.heap.size 5 1 (.slice a8 dl c8) dl (bcells d)):=own_keep ho k9 (fun x hx=>by omega)
 have x9:(W8.setCells w1.heap.size 0 [.int .i64 (k:Int),.int .i64 (s:Int),.slice a8 dl c8]).cell? ⟨w1.heap.size,0,none⟩=some (.int .i64 (k:Int)):=by have:=range_of h9X 0 _ rfl; simpa using this
 have H9M:=hide h9M
 have H9N:=hide h9N
 have H9X:=hide h9X
 have H9Y:=hide h9Y
 have B9:=hide b9
 have Z9:=hide z9
 have zXx:w1.heap.size < (W8.setCells w1.heap.size 0 [.int .i64 (k:Int),.int .i64 (s:Int),.slice a8 dl c8]).heap.size:=(Array.getElem?_eq_some_iff.1 h9X).1
 have zYx:W.heap.size < (W8.setCells w1.heap.size 0 [.int .i64 (k:Int),.int .i64 (s:Int),.slice a8 dl c8]).heap.size:=(Array.getElem?_eq_some_iff.1 h9Y).1
 clear h9M h9N h9X h9Y b9 z9 hst b8 o8 z8 k8 hX8 hX k9 ff hb7
 obtain ⟨W9,hW9⟩:∃ W9,W9=W8.setCells w1.heap.size 0 [.int .i64 (k:Int),.int .i64 (s:Int),.slice a8 dl c8]:=⟨_,rfl⟩
 rw [← hW9] at H9M H9N H9X H9Y B9 Z9 x9 zXx zYx HOW9
 go_wp2_with (refine keptU_store_intro _ _ (.pointer (some ⟨W.heap.size,13,none⟩)) (.agg zU) (by rfl) (by rfl) HST.out ?_)
 show Code.wp _ _ _ _ (W8.setCells w1.heap.size 0 [.int .i64 (k:Int),.int .i64 (s:Int),.slice a8 dl c8])
 rw [← hW9]
 clear hW9
 refine out_region _ W9 w.heap.size (w.heap.size+1) 40 zM zM #[.int .i64 0,.int .i64 0,.slice none 0 0] #[.int .i64 (k:Int),.int .i64 (s:Int),.slice a8 dl c8] 71 72 _ _ (opi rfl) (opi rfl) (opi rfl) (opi rfl) rfl (by kernel_rfl) (by kernel_rfl) (by kernel_rfl) (by kernel_rfl) (by kernel_rfl) (by kernel_rfl) (by kernel_rfl) (by kernel_rfl)
  (fun ty po af W' _=>run_of_build W') (fun ty po af W' hW=>run_of_loadN (g:=w1.heap.size) (by rfl) (by
   rw [hW.block _ zXx (by omega)]; exact H9X.out)) rfl rfl (show 71 < 75 by decide) (show 72 < 75 by decide) (by decide) H9M.out H9N.out (by omega) rfl rfl infoM infoN MC.zero.2 (by simp [Value.oneCell']) ?_
 simp only [Act.put,List.setIfInBounds_toArray,List.set_cons_zero,List.set_cons_succ]
 have HRM:Hid (((({ W9 with drawn:=W9.drawn+1 } : World).setCells w.heap.size 0 zM.toList).setCells (w.heap.size+1) 0 (#[Value.int .i64 (k:Int),.int .i64 (s:Int),.slice a8 dl c8]:Array Value).toList).rangeAt w.heap.size 0 zM.toList):=bx_apart (bx_set (w:={ W9 with drawn:=W9.drawn+1 }) H9M.out (Nat.le_of_eq (MC.zero.1.trans MC.zero.1.symm))) (by omega)
 have HRN:Hid (((({ W9 with drawn:=W9.drawn+1 } : World).setCells w.heap.size 0 zM.toList).setCells (w.heap.size+1) 0 (#[Value.int .i64 (k:Int),.int .i64 (s:Int),.slice a8 dl c8]:Array Value).toList).rangeAt (w.heap.size+1) 0 (#[Value.int .i64 (k:Int),.int .i64 (s:Int),.slice a8 dl c8]:Array Value).toList) :=
  bx_set (C0:=#[.int .i64 0,.int .i64 0,.slice none 0 0]) (t:=38) (by rw [heap_sets (by omega)]; exact H9N.out) (by simp)
 have HKe:Hid (Keeps (fun x=>x=w.heap.size∨x=w.heap.size+1) W9 ((({ W9 with drawn:=W9.drawn+1 } : World).setCells w.heap.size 0 zM.toList).setCells (w.heap.size+1) 0 (#[Value.int .i64 (k:Int),.int .i64 (s:Int),.slice a8 dl c8]:Array Value).toList)) :=
  (Keeps.setCells (w:=W9) (w1:={ W9 with drawn:=W9.drawn+1 }) ⟨rfl,rfl,rfl,Nat.le_refl _,fun _ _ _=>rfl⟩ _ 0 _ (.inl (.inl rfl))).setCells _ 0 _ (.inl (.inr rfl))
 generalize ((({ W9 with drawn:=W9.drawn+1 } : World).setCells w.heap.size 0 zM.toList).setCells (w.heap.size+1) 0 (#[Value.int .i64 (k:Int),.int .i64 (s:Int),.slice a8 dl c8]:Array Value).toList)=WE at *
 go_wp2_with fail
 refine bodyPost_ret (v:=.tuple #[.agg zM,.agg #[.int .i64 (k:Int),.int .i64 (s:Int),.slice a8 dl c8]]) (res_cells2 Tryz.results10 _ WE w.heap.size (w.heap.size+1) zM _ rfl rfl HRM.out HRN.out Tryz.underlying40 rfl infoM Tryz.underlying38 rfl infoN) rfl ⟨⟨_,rfl,a8,c8,rfl,own_low (own_keep HOW9.out HKe.out (fun x hx=>by omega)) (by have:=HD.out.bel.size; omega)⟩,B9.out.trans (HKe.out.below _ B9.out.size (fun x e=>by omega))⟩
set_option maxHeartbeats 4000000 in
theorem dec_up_good (g o n cp:Nat)(bs:List Nat)(w:World)(hn:bs.length=n)(hn23:23≤n)(hl:n≤5000)(hcap:n≤cp)(h:BRd w (some ⟨g,o,none⟩) bs)(hS:SaidM w)(hA:Said w)(hr:headM bs=(n,0,0,[]))(hk2:bs.getD 18 0=2)(G N:List (Nat×Nat))(r:Option At)(ho:upR (bs.drop 19)=.inr (G,N,r)) :
  Calls Tryz.prog 10 #[.slice (some ⟨g,o,none⟩) n cp] w fun e w'=>(∃ v u A,e=.returned (.tuple #[.agg (updMsg 2 (updC v A u)),.agg #[.int .i64 0,.int .i64 0,.slice none 0 0]])∧OwnX w.heap.size G N v u A r w')∧Below w.heap.size w w':=by
 have KH:=head_dW (some ⟨g,o,none⟩) cp bs w (by omega) (by omega) h hS _ hr
 rw [hn] at KH
 have HK:=hide KH
 obtain ⟨g',o',e9,hc⟩:=h.1.2 (by omega)
 cases e9
 have c18:w.cell? ⟨g,o+18,none⟩=some (.int .u8 2):=by rw [hc 18 (by omega)]; show some (Value.int .u8 ((bs.getD 18 0:Nat):Int))=_; rw [hk2]; rfl
 have zg:=World.block_lt_of_cell? w _ c18
 simp only at zg
 have KO:Hid (∀ X,Below w.heap.size w X→Calls Tryz.prog 26 #[.slice (some ⟨g,o+19,none⟩) (n - 19) (cp - 19)] X fun e w'=>UpIs X w' e (upR (bs.drop 19))∧Below X.heap.size X w'):=fun X hX =>
  readup_any (some ⟨g,o+19,none⟩) (n - 19) (cp - 19) (bs.drop 19) X (by rw [List.length_drop,hn]) (by omega) (by omega) (brd_drop (h.below hX) (by omega)) (hA.below hX)
 have hcp19:¬ cp=19:=by omega
 have hni:¬ ((n:Int) < 19):=by omega
 have H29:Hid (23≤n∧n≤5000):=⟨hn23,hl⟩
 clear KH h hS hA hcap hr hn hk2 hc hl hn23
 simp only at HK
 rw [ho] at KO
 have KO:=hide (fun X hX=>upIs_good (KO.out X hX))
 clear ho
 go_enter Tryz.func10,Tryz.ntmps10
 go_wp2_with (refine keptM_alloc_intro _ (run_allocM w) ?_)
 show Calls Tryz.prog 23 #[.slice (some ⟨g,o,none⟩) n cp] (dW w) _
 with_reducible refine HK.out.mono ?_
 rintro e w1 ⟨a9,c9,rfl,HO,HB⟩
 have HH:=hide (h6_of a9 0 c9 HB.out zg c18)
 go_wp2_with fail
 generalize (w1.alloc (.cells #[.int .i64 0,.int .i64 0,.slice a9 0 c9] 38))=W at *
 refine m_region _ W g o n cp 2 (opi rfl) (opi rfl) (opi rfl) (opi rfl) (opi rfl) (opi rfl) (opi rfl) (opi rfl) (opi rfl) (opi rfl) rfl (by kernel_rfl)
  (by kernel_rfl) (by kernel_rfl) (by kernel_rfl) (by kernel_rfl) (by kernel_rfl) (by kernel_rfl) (by kernel_rfl) (by kernel_rfl) (by kernel_rfl) (by kernel_rfl) (by kernel_rfl)
  rfl rfl (by have:=H29.out.1; omega) (by have:=H29.out.2; omega) (by omega) HH.out.c18 ?_
 intro a W6 hfr h6 h7 bY hb6
 rw [if_neg hcp19] at h7
 obtain ⟨x0,x1,x2,x3,x4,x5,x6,rfl⟩:=hfr.lay9m (by exact (by decide:∀ s∈[29,30,31,32,33,34,35,6,7],s < 75)) h6 h7
 have HD:Hid (D6 w W6 w1.heap.size W.heap.size (msgC 2 0 0 (.slice none 0 0)) (.slice a9 0 c9)):=HH.out.d6 bY hb6
 have hsz:=HH.out.le
 have y0:W6.cell? ⟨W.heap.size,0,none⟩=some (.int .i64 2):=range_of HD.out.bY 0 _ rfl
 have zY:W.heap.size < W6.heap.size:=HD.out.hs
 clear hfr h6 h7 bY hb6
 simp only [Act.put,List.setIfInBounds_toArray,List.set_cons_zero,List.set_cons_succ]
 go_wp2_with fail
 with_reducible refine (KO.out W6 HD.out.bel).mono ?_
 rintro e w7 ⟨hop,hb7⟩
 obtain ⟨v,u,A,rfl,hUC,hown⟩:=hop
 obtain ⟨W8,hst,b8,o8,z8,k8⟩:=store_update (w:=w7) (Y:=W.heap.size) (k:=2) (U:=(updC v A u)) hUC (by rw [hb7.block _ zY]; exact HD.out.bY)
 have hX8:W8.heap[w1.heap.size]?=some (.cells #[.int .i64 0,.int .i64 0,.slice a9 0 c9] 38 (0,0)):=by
  rw [o8 _ (by have:=HD.out.hY; omega),hb7.block _ (by have:=HD.out.hY; omega)]; exact HD.out.bX
 have hX:=range_of hX8
 have zX8:w1.heap.size < W8.heap.size:=(Array.getElem?_eq_some_iff.1 hX8).1
 have r0:W8.cell? ⟨w1.heap.size,0,none⟩=some (.int .i64 0):=by have:=hX 0 _ rfl; simpa using this
 have r1:W8.cell? ⟨w1.heap.size,1,none⟩=some (.int .i64 0):=by have:=hX 1 _ rfl; simpa using this
 have r2:W8.cell? ⟨w1.heap.size,2,none⟩=some (.slice a9 0 c9):=by have:=hX 2 _ rfl; simpa using this
 have ff:∀ j,W8.frozen? ⟨w1.heap.size,j,none⟩=false:=fun j=>by simp [World.frozen?,hX8]
 have f0:=ff 0
 have f1:=ff 1
 have f2:=ff 2
 have HST:=hide hst
 have zx:w1.heap.size≠W.heap.size∧w.heap.size+2≤w1.heap.size∧w1.heap.size < W.heap.size:=by have:=HD.out.hX; have:=HD.out.hY; omega
 have h9M:(W8.setCells w1.heap.size 0 [.int .i64 0,.int .i64 0,.slice none 0 0]).heap[w.heap.size]?=some (.cells zM 40 (0,0)):=by
  rw [heap_sets (by omega),o8 _ (by omega),hb7.block _ (by omega)]; exact HD.out.bM
 have h9N:(W8.setCells w1.heap.size 0 [.int .i64 0,.int .i64 0,.slice none 0 0]).heap[w.heap.size+1]?=some (.cells #[.int .i64 0,.int .i64 0,.slice none 0 0] 38 (0,0)):=by
  rw [heap_sets (by omega),o8 _ (by omega),hb7.block _ (by omega)]; exact HD.out.bN
 have h9X:(W8.setCells w1.heap.size 0 [.int .i64 0,.int .i64 0,.slice none 0 0]).heap[w1.heap.size]?=some (.cells #[.int .i64 0,.int .i64 0,.slice none 0 0] 38 (0,0)):=bx_put (C:=#[.int .i64 0,.int .i64 0,.slice none 0 0]) hX8 rfl
 have h9Y:(W8.setCells w1.heap.size 0 [.int .i64 0,.int .i64 0,.slice none 0 0]).heap[W.heap.size]?=some (.cells (updMsg 2 (updC v A u)) 40 (0,0)):=by
  rw [heap_sets (by omega)]; exact b8
 have k9:Keeps (fun x=>x=W.heap.size∨x=w1.heap.size) w7 (W8.setCells w1.heap.size 0 [.int .i64 0,.int .i64 0,.slice none 0 0]):=(k8.mono (fun x _ e=>.inl e)).setCells _ 0 _ (.inl (.inr rfl))
 have b9:Below w.heap.size w (W8.setCells w1.heap.size 0 [.int .i64 0,.int .i64 0,.slice none 0 0]):=(HD.out.bel.trans (hb7.mono HD.out.bel.size)).trans (k9.below _ (by have:=HD.out.bel.size; have:=hb7.size; omega) (fun x e=>by omega))
 have z9:(W8.setCells w1.heap.size 0 [.int .i64 0,.int .i64 0,.slice none 0 0]).heap.size=w7.heap.size:=by
  have:∀ (vs:List Value) (o:Nat) (w:World),(w.setCells w1.heap.size o vs).heap.size=w.heap.size:=by
   intro vs
   induction vs with
   | nil=>intro o w; rfl
   | cons v r ih=>intro o w; rw [World.setCells,ih]; simp
  rw [this,z8]
 have OW9:=hide (hown.keep k9 (fun x hx=>by omega))
 have x9:(W8.setCells w1.heap.size 0 [.int .i64 0,.int .i64 0,.slice none 0 0]).cell? ⟨w1.heap.size,0,none⟩=some (.int .i64 0):=by have:=range_of h9X 0 _ rfl; simpa using this
 have H9M:=hide h9M
 have H9N:=hide h9N
 have H9X:=hide h9X
 have H9Y:=hide h9Y
 have B9:=hide b9
 have Z9:=hide z9
 have zXx:w1.heap.size < (W8.setCells w1.heap.size 0 [.int .i64 0,.int .i64 0,.slice none 0 0]).heap.size:=(Array.getElem?_eq_some_iff.1 h9X).1
 have zYx:W.heap.size < (W8.setCells w1.heap.size 0 [.int .i64 0,.int .i64 0,.slice none 0 0]).heap.size:=(Array.getElem?_eq_some_iff.1 h9Y).1
 clear h9M h9N h9X h9Y b9 z9 hst b8 o8 z8 k8 hX8 hX k9 ff hb7
 obtain ⟨W9,hW9⟩:∃ W9,W9=W8.setCells w1.heap.size 0 [.int .i64 0,.int .i64 0,.slice none 0 0]:=⟨_,rfl⟩
 rw [← hW9] at H9M H9N H9X H9Y B9 Z9 x9 zXx zYx OW9
 go_wp2_with (refine keptU_store_intro _ _ (.pointer (some ⟨W.heap.size,13,none⟩)) (.agg (updC v A u)) (by rfl) (by rfl) HST.out ?_)
 show Code.wp _ _ _ _ (W8.setCells w1.heap.size 0 [.int .i64 0,.int .i64 0,.slice none 0 0])
 rw [← hW9]
 clear hW9
 refine out_region _ W9 w.heap.size (w.heap.size+1) 40 zM (updMsg 2 (updC v A u)) #[.int .i64 0,.int .i64 0,.slice none 0 0] #[.int .i64 0,.int .i64 0,.slice none 0 0] 73 74 _ _ (opi rfl) (opi rfl) (opi rfl) (opi rfl) rfl (by kernel_rfl) (by kernel_rfl) (by kernel_rfl) (by kernel_rfl) (by kernel_rfl) (by kernel_rfl) (by kernel_rfl) (by kernel_rfl)
  (fun ty po af W' hW=>run_of_loadM (MC.updMsg 2 hUC) (g:=W.heap.size) (by rfl) (range_of (by rw [hW.block _ zYx (by omega)]; exact H9Y.out))) (fun ty po af W' hW=>run_of_loadN (g:=w1.heap.size) (by rfl) (by
   rw [hW.block _ zXx (by omega)]; exact H9X.out)) rfl rfl (show 73 < 75 by decide) (show 74 < 75 by decide) (by decide) H9M.out H9N.out (by omega) (by rw [(MC.updMsg 2 hUC).1,MC.zero.1]) rfl (by rw [infoM,(MC.updMsg 2 hUC).1]) infoN (MC.updMsg 2 hUC).2 (by simp [Value.oneCell']) ?_
 simp only [Act.put,List.setIfInBounds_toArray,List.set_cons_zero,List.set_cons_succ]
 have HRM:Hid (((({ W9 with drawn:=W9.drawn+1 } : World).setCells w.heap.size 0 (updMsg 2 (updC v A u)).toList).setCells (w.heap.size+1) 0 (#[Value.int .i64 0,.int .i64 0,.slice none 0 0]:Array Value).toList).rangeAt w.heap.size 0 (updMsg 2 (updC v A u)).toList):=bx_apart (bx_set (w:={ W9 with drawn:=W9.drawn+1 }) H9M.out (Nat.le_of_eq ((MC.updMsg 2 hUC).1.trans MC.zero.1.symm))) (by omega)
 have HRN:Hid (((({ W9 with drawn:=W9.drawn+1 } : World).setCells w.heap.size 0 (updMsg 2 (updC v A u)).toList).setCells (w.heap.size+1) 0 (#[Value.int .i64 0,.int .i64 0,.slice none 0 0]:Array Value).toList).rangeAt (w.heap.size+1) 0 (#[Value.int .i64 0,.int .i64 0,.slice none 0 0]:Array Value).toList) :=
  bx_set (C0:=#[.int .i64 0,.int .i64 0,.slice none 0 0]) (t:=38) (by rw [heap_sets (by omega)]; exact H9N.out) (by simp)
 have HKe:Hid (Keeps (fun x=>x=w.heap.size∨x=w.heap.size+1) W9 ((({ W9 with drawn:=W9.drawn+1 } : World).setCells w.heap.size 0 (updMsg 2 (updC v A u)).toList).setCells (w.heap.size+1) 0 (#[Value.int .i64 0,.int .i64 0,.slice none 0 0]:Array Value).toList)) :=
  (Keeps.setCells (w:=W9) (w1:={ W9 with drawn:=W9.drawn+1 }) ⟨rfl,rfl,rfl,Nat.le_refl _,fun _ _ _=>rfl⟩ _ 0 _ (.inl (.inl rfl))).setCells _ 0 _ (.inl (.inr rfl))
 generalize ((({ W9 with drawn:=W9.drawn+1 } : World).setCells w.heap.size 0 (updMsg 2 (updC v A u)).toList).setCells (w.heap.size+1) 0 (#[Value.int .i64 0,.int .i64 0,.slice none 0 0]:Array Value).toList)=WE at *
 go_wp2_with fail
 refine bodyPost_ret (v:=.tuple #[.agg (updMsg 2 (updC v A u)),.agg #[.int .i64 0,.int .i64 0,.slice none 0 0]]) (res_cells2 Tryz.results10 _ WE w.heap.size (w.heap.size+1) (updMsg 2 (updC v A u)) _ rfl rfl HRM.out HRN.out Tryz.underlying40 rfl (by rw [infoM,(MC.updMsg 2 hUC).1]) Tryz.underlying38 rfl infoN) rfl ⟨⟨v,u,A,rfl,(OW9.out.keep HKe.out (fun x hx=>by omega)).base (by have:=HD.out.bel.size; omega)⟩,B9.out.trans (HKe.out.below _ B9.out.size (fun x e=>by omega))⟩
end
theorem cells_mid {g:Nat}{t:TypeId}{f:Nat×Nat} : ∀ (V M L R:List Value) (w:World),w.heap[g]?=some (.cells (L++M++R).toArray t f)→V.length=M.length→(w.setCells g L.length V).heap[g]?=some (.cells (L++V++R).toArray t f)
 | [],M,L,R,w,h,hl=>by
  have:M=[]:=List.length_eq_zero_iff.1 hl.symm
  subst this
  exact h
 | v :: V,[],L,R,w,h,hl=>by simp at hl
 | v :: V,m :: M,L,R,w,h,hl=>by
  rw [World.setCells]
  have h1:(w.setCell ⟨g,L.length,none⟩ v).heap[g]?=some (.cells ((L++[v])++M++R).toArray t f):=by
   have h2:(w.setCell ⟨g,L.length,none⟩ v).heap[g]?=some (.cells ((L++m :: M++R).toArray.setIfInBounds L.length v) t f):=by
    unfold World.setCell
    simp only [Array.getElem?_modify,if_true,h,Option.map_some]
    rfl
   rw [h2]
   congr 2
   simp
  have:=cells_mid V M (L++[v]) R _ h1 (by simpa using hl)
  rw [List.length_append] at this
  simpa using this
theorem sets_size {g:Nat} : ∀ (vs:List Value) (o:Nat) (w:World),(w.setCells g o vs).heap.size=w.heap.size
 | [],_,_=>rfl
 | v :: r,o,w=>by rw [World.setCells,sets_size r]; simp
def upL (v:Value):List Value:=[.int .i64 2,.int .i64 0,.int .i64 0,.int .u32 0,.bool false,.int .i64 0,.bool false,.bool false,.int .i64 0,.bool false,.bool false,.bool false,.int .i64 0,v]
def upRt (u:Value):List Value:=[u,.int .i64 0,.int .i64 0,.slice none 0 0]
theorem upd_form (v u:Value)(A:Array Value):updMsg 2 (updC v A u)=(upL v++A.toList++upRt u).toArray:=by
 apply Array.ext'
 simp [updMsg,updC,upL,upRt,zO12]
def upH:List Value:=[.int .i64 2,.int .i64 0,.int .i64 0,.int .u32 0,.bool false,.int .i64 0,.bool false,.bool false,.int .i64 0,.bool false,.bool false,.bool false,.int .i64 0]
def upT:List Value:=[.slice none 0 0,.int .i64 0,.int .i64 0,.slice none 0 0]
def upZ:List Value:=[.int .i64 0,.int .i64 0,.slice none 0 0]
theorem set_two {w:World}{Y:Nat}{v u:Value} (h:w.heap[Y]?=some (.cells (msgC 2 0 0 (.slice none 0 0)) 40 (0,0))) :
  ((w.setCell ⟨Y,13,none⟩ v).setCell ⟨Y,21,none⟩ u).heap[Y]?=some (.cells (updMsg 2 (updC v zA7 u)) 40 (0,0))∧Keeps (fun x=>x=Y) w ((w.setCell ⟨Y,13,none⟩ v).setCell ⟨Y,21,none⟩ u)∧((w.setCell ⟨Y,13,none⟩ v).setCell ⟨Y,21,none⟩ u).heap.size=w.heap.size:=by
 have h0:w.heap[Y]?=some (.cells (upH++[Value.slice none 0 0]++(zA7.toList++upT)).toArray 40 (0,0)):=h
 have h1:=cells_mid (g:=Y) (t:=40) (f:=(0,0)) [v] [.slice none 0 0] upH (zA7.toList++upT) w h0 rfl
 have h1':(w.setCell ⟨Y,13,none⟩ v).heap[Y]?=some (.cells (upL v++zA7.toList++[Value.slice none 0 0]++upZ).toArray 40 (0,0)):=h1
 have h2:=cells_mid (g:=Y) (t:=40) (f:=(0,0)) [u] [.slice none 0 0] (upL v++zA7.toList) upZ _ h1' rfl
 refine ⟨?_,?_,by simp⟩
 ·have h3:((w.setCell ⟨Y,13,none⟩ v).setCell ⟨Y,21,none⟩ u).heap[Y]?=some (.cells (upL v++zA7.toList++[u]++upZ).toArray 40 (0,0)):=h2
  rw [upd_form,h3]
  simp [upRt,upZ]
 ·exact ((Keeps.refl (fun x=>x=Y) w).setCells Y 13 [v] (.inl rfl)).setCells Y 21 [u] (.inl rfl)
theorem store_attrsM {w:World}{Y:Nat}{v u:Value}{A:Array Value} (hA:A.size=7) (hA1:A.all (·.oneCell')=true) (h:w.heap[Y]?=some (.cells (updMsg 2 (updC v zA7 u)) 40 (0,0))) :
  ∃ W8,(Instr.storeAt 34 (.pointer (some ⟨Y,14,none⟩)) (.agg A)).run Tryz.prog w=.ok () W8∧W8.heap[Y]?=some (.cells (updMsg 2 (updC v A u)) 40 (0,0))∧W8.heap.size=w.heap.size∧Keeps (fun x=>x=Y) w W8:=by
 have ht:w.there Y 14 A.size:=fun j hj=>by
  rw [hA] at hj
  refine ⟨?_,by simp [World.frozen?,h]⟩
  have:14+j < (updMsg 2 (updC v zA7 u)).size:=by rw [upd_form]; simp [upL,upRt,zA7]; omega
  simp only [World.cell?,h]
  rw [Array.getElem?_eq_getElem this]
  rfl
 refine ⟨w.setCells Y 14 A.toList,run_storeAt_mid (P:=Tryz.prog) w Y 14 34 A ht (by rw [infoA,hA]) hA1,?_,sets_size _ _ _,(Keeps.refl _ _).setCells Y 14 _ (.inl rfl)⟩
 rw [upd_form] at h ⊢
 exact cells_mid A.toList zA7.toList (upL v) (upRt u) w h (by simp [hA,zA7])
theorem rreadp_any (g o n cap:Nat)(bs:List Nat)(w:World)(hn:bs.length=n)(hl:n≤5000)(hcap:n≤cap)(h:BRd w (some ⟨g,o,none⟩) bs) :
  Calls Tryz.prog 30 #[.slice (some ⟨g,o,none⟩) n cap] w fun e w'=>(∃ a c,e=.returned (.tuple #[.slice a ((pfxB bs).getD []).length c,.bool (pfxB bs).isSome])∧w'.ownsRow w.heap.size 96 2 (.slice a ((pfxB bs).getD []).length c) ((pfxB bs).getD []).length (pcells ((pfxB bs).getD [])))∧Below w.heap.size w w':=by
 have K:=fread_some g o n cap (fun j=>bs.getD j 0) w (by omega) hcap (fun j _=>getD_lt256 h.2 j) (fun j hj=>by
  obtain ⟨g',o',e9,hc⟩:=h.1.2 (by omega)
  cases e9
  exact hc j (by omega))
 have e:decRun (fun j=>bs.getD j 0) n 0 []=pfxB bs:=by unfold pfxB; rw [hn]
 rw [e] at K
 refine K.mono ?_
 rintro e w' ⟨hd,hb⟩
 refine ⟨?_,hb⟩
 cases hp:pfxB bs with
 | none =>
  rw [hp] at hd
  exact ⟨none,0,hd,own_nil _ _ _ _⟩
 | some ps =>
  rw [hp] at hd
  obtain ⟨v,he,ho⟩:=hd
  obtain ⟨a,c,rfl⟩:=own_slice ho
  exact ⟨a,c,he,ho⟩
theorem take2 {l:List Nat}(h:2≤l.length):l.take 2=[l.getD 0 0,l.getD 1 0]:=by
 match l,h with
 | x :: y :: r,_=>simp
theorem numB2 {l:List Nat}(h:2≤l.length):numB (l.take 2)=256 * l.getD 0 0+l.getD 1 0:=by
 rw [take2 h]
 simp [numB]
 omega
theorem getD_drop (l:List Nat)(k i:Nat):(l.drop k).getD i 0=l.getD (k+i) 0:=by
 simp [List.getD_eq_getElem?_getD,List.getElem?_drop]
theorem upR_first {B:List Nat}(hB:4≤B.length)(h:B.length < 256 * B.getD 0 0+B.getD 1 0+4):upR B=.inl (3,1,[]):=by
 unfold upR
 by_cases h1:B.length < 2+(256 * B.getD 0 0+B.getD 1 0)
 ·rw [cutP_no (k:=2) (by omega) (by rw [numB2 (by omega)]; exact h1)]
 ·rw [cutP_yes (k:=2) (by omega) (by rw [numB2 (by omega)]; exact h1)]
  simp only
  rw [numB2 (by omega),cutP_short (by rw [List.length_drop]; omega)]
theorem upR_cut {B:List Nat}{G A:Nat} (hG:G=256 * B.getD 0 0+B.getD 1 0) (hA:A=256 * B.getD (2+G) 0+B.getD (3+G) 0) (hB:G+4≤B.length) :
  upR B=if B.length < G+4+A then .inl (3,1,[]) else match pfxB ((B.drop 2).take G),pfxB (B.drop (G+4+A)) with
   | some P,some N=>if N=[]∧(B.drop (4+G)).take A=[] then .inr (P,[],none) else match readA ((B.drop (4+G)).take A) with
    | .inl (_,s,d)=>.inl (3,s,d)
    | .inr b=>.inr (P,N,if N=[] then none else some b)
   | _,_=>.inl (3,10,[]):=by
 have hq:(B.drop (2+G)).length=B.length - (2+G):=List.length_drop
 have hA2:numB ((B.drop (2+G)).take 2)=A:=by
  rw [numB2 (by omega),getD_drop,getD_drop,hA,show 2+G+1=3+G by omega,Nat.add_zero]
 unfold upR
 rw [cutP_yes (k:=2) (by omega) (by rw [numB2 (by omega),← hG]; omega)]
 simp only
 rw [numB2 (by omega),← hG]
 by_cases h1:B.length < G+4+A
 ·rw [if_pos h1,cutP_no (k:=2) (by omega) (by rw [hA2]; omega)]
 ·rw [if_neg h1,cutP_yes (k:=2) (by omega) (by rw [hA2]; omega),hA2]
  simp only [List.drop_drop]
  rw [show 2+G+(2+A)=G+4+A by omega,show 2+G+2=4+G by omega]
  all_goals (cases pfxB ((B.drop 2).take G) <;> cases pfxB (B.drop (G+4+A)) <;> rfl)
def NtK (w X:World)(k s:Nat)(a:Option Addr)(n cap:Nat)(d:List Nat):Prop:=Calls Tryz.prog 27 #[.int .i64 (k:Int),.int .i64 (s:Int),.slice a n cap] X fun e w3=>∃ a9 c9 W5,e=.returned (.agg #[.int .i64 (k:Int),.int .i64 (s:Int),.slice a9 n c9])∧Hid ((Instr.storeAt 40 (.pointer (some ⟨w.heap.size,0,none⟩)) (.agg zM)).run Tryz.prog w3=.ok () W5)∧Hid (NtBox W5 (w.heap.size+1))∧Hid (MEnd w W5 k s d a9 n c9)
structure RF (g o n cp lo:Nat) (kd:Int) (bs:List Nat) (w:World):Prop where
 c18:w.cell? ⟨g,o+18,none⟩=some (.int .u8 kd)
 zg:g < w.heap.size
 hk:Hid (Calls Tryz.prog 20 #[.slice (some ⟨g,o,none⟩) n cp] (dW w) fun e w1=>∃ a9 c9,e=.returned (.tuple #[.int .i64 (n:Int),.agg #[.int .i64 0,.int .i64 0,.slice a9 0 c9]])∧Hid (Below (w.heap.size+2) (dW w) w1))
 hC:Hid (∀ X,Below w.heap.size w X→∀ k,k < n - 19→X.cell? ⟨g,o+19+k,none⟩=some (.int .u8 ((bs.drop 19).getD k 0:Int)))
 lt:Hid (∀ k,(bs.drop 19).getD k 0 < 256)
 nc:Hid (lo≤n - 19∧n - 19≤cp - 19∧n - 19≤5000)
 h29:Hid (lo+19≤n∧n≤5000)
 hcp:¬ cp=19
 hz0:((n:Int) == 0)=false
 hB:BRd w (some ⟨g,o+19,none⟩) (bs.drop 19)
 hBl:(bs.drop 19).length=n - 19
 ke:Hid (∀ k X s,MW w X→NtK w X k s none 0 0 [])
theorem read_facts (g o n cp lo:Nat)(bs:List Nat)(w:World)(kd:Int)(hn:bs.length=n)(hlo:lo+19≤n)(h1:1≤lo)(hl:n≤5000)(hcap:n≤cp)(h:BRd w (some ⟨g,o,none⟩) bs)(hr:headM bs=(n,0,0,[]))(hk:((bs.getD 18 0:Nat):Int)=kd):RF g o n cp lo kd bs w:=by
 have KH:=rhead_dW (some ⟨g,o,none⟩) cp bs w (by omega) (by omega) h _ hr
 rw [hn] at KH
 obtain ⟨g',o',e9,hc⟩:=h.1.2 (by omega)
 cases e9
 have c18:w.cell? ⟨g,o+18,none⟩=some (.int .u8 kd):=by rw [hc 18 (by omega),← hk]
 have zg:=World.block_lt_of_cell? w _ c18
 simp only at zg
 have hB:=brd_drop (k:=19) h (by omega)
 have hBl:(bs.drop 19).length=n - 19:=by rw [List.length_drop,hn]
 refine ⟨c18,zg,?_,fun X hX k hk=>?_,fun k=>getD_lt256 hB.2 k,⟨by omega,by omega,by omega⟩,⟨hlo,hl⟩,by omega,by simp; omega,hB,hBl,fun k X s hX=>rmsg_end w X hX k s none 0 0 [] rfl (by decide) (brd_none _ _)⟩
 ·refine KH.mono ?_
  rintro e w1 ⟨a9,c9,rfl,_,hb⟩
  exact ⟨a9,c9,rfl,hb⟩
 ·obtain ⟨g',o',e9,hc⟩:=hB.1.2 (by omega)
  cases e9
  rw [hX.cell (p:=⟨g,o+19+k,none⟩) zg]
  exact hc k (by omega)
theorem ke_vers {w:World} : Hid (∀ X q,MW w X→X.heap[q]?=some (.cells #[.int .u8 0,.int .u8 4] 5 (0,0))→NtK w X 2 1 (some ⟨q,0,none⟩) 2 2 [0,4]):=fun X q hX hq=>rmsg_end w X hX 2 1 (some ⟨q,0,none⟩) 2 2 [0,4] rfl (by decide) ⟨⟨by simp [maxLen],fun _=>⟨_,0,rfl,fun i hi=>by
   have hr:=range_of hq
   match i,hi with
   | 0,_=>exact hr 0 _ rfl
   | 1,_=>exact hr 1 _ rfl⟩⟩,by simp⟩
theorem kr_of {g o n cp lo:Nat}{kd:Int}{bs:List Nat}{w:World} (h:RF g o n cp lo kd bs w) (h10:10≤n - 19) (r:Option Cp) (hr:readC ((bs.drop 19).drop 10)=r):Hid (∀ X,Below w.heap.size w X→Calls Tryz.prog 28 #[.slice (if cp - 19=10 then some ⟨g,o+19,none⟩ else some ⟨g,o+19+10,none⟩) (n - 19 - 10) (cp - 19 - 10)] X fun e w'=>e=.returned (decV r)∧Hid (Below X.heap.size X w')):=fun X hX=>by
 subst hr
 obtain ⟨_,n1,n2⟩:=h.nc.out
 have hpl:((bs.drop 19).drop 10).length=n - 19 - 10:=by rw [List.length_drop,h.hBl]
 have hb:=brd_sub (a:=if cp - 19=10 then some ⟨g,o+19,none⟩ else some ⟨g,o+19+10,none⟩) (k:=10) (l:=n - 19 - 10) (c:=cp - 19) (h.hB.below hX) (by rw [h.hBl]; omega) (by rw [h.hBl]; omega) rfl
 rw [List.take_of_length_le (by rw [hpl]; omega)] at hb
 have:=rreadc_any _ (cp - 19 - 10) _ X (by rw [hpl]; omega) (by rw [hpl]; omega) hb
 rw [hpl] at this
 exact this.mono fun e w' h=>⟨h.1,h.2⟩
def PfK (X:World)(a:Option Addr)(n cap:Nat)(P:List (Nat×Nat))(b:Bool):Prop:=Calls Tryz.prog 30 #[.slice a n cap] X fun e w'=>(∃ a c,e=.returned (.tuple #[.slice a P.length c,.bool b])∧Hid (w'.ownsRow X.heap.size 96 2 (.slice a P.length c) P.length (pcells P)))∧Hid (Below X.heap.size X w')
theorem pfk_of {X:World}{g o n cap:Nat}{l:List Nat}{P:List (Nat×Nat)}{b:Bool} (hn:l.length=n) (hl:n≤5000) (hc:n≤cap) (h:BRd X (some ⟨g,o,none⟩) l) (hP:(pfxB l).getD []=P) (hb:(pfxB l).isSome=b):PfK X (some ⟨g,o,none⟩) n cap P b:=by
 have h9:=rreadp_any g o n cap l X hn hl hc h
 rw [hP,hb] at h9
 exact h9.mono fun e w' ⟨⟨a,c,e1,e2⟩,e3⟩=>⟨⟨a,c,e1,e2⟩,e3⟩
theorem kp_of {g o n cp lo:Nat}{kd:Int}{bs:List Nat}{w:World} (h:RF g o n cp lo kd bs w) {G:Nat} (hu:G+4≤n - 19) {P:List (Nat×Nat)}{b:Bool} (hP:(pfxB (((bs.drop 19).drop 2).take G)).getD []=P) (hb:(pfxB (((bs.drop 19).drop 2).take G)).isSome=b) :
  Hid (∀ X,Below w.heap.size w X→PfK X (some ⟨g,o+19+2,none⟩) (2+G - 2) (cp - 19 - 2) P b):=fun X hX=>by
 obtain ⟨_,n1,n2⟩:=h.nc.out
 exact pfk_of (by rw [List.length_take,List.length_drop,h.hBl]; omega) (by omega) (by omega) (brd_from (h.hB.below hX) 2 G (by rw [h.hBl]; omega)) hP hb
theorem kn_of {g o n cp lo:Nat}{kd:Int}{bs:List Nat}{w:World} (h:RF g o n cp lo kd bs w) {G A:Nat} (hu:G+4+A≤n - 19) {Q:List (Nat×Nat)}{b:Bool} (hQ:(pfxB ((bs.drop 19).drop (G+4+A))).getD []=Q) (hb:(pfxB ((bs.drop 19).drop (G+4+A))).isSome=b) :
  Hid (∀ X,Below w.heap.size w X→PfK X (if cp - 19=4+G+A then some ⟨g,o+19,none⟩ else some ⟨g,o+19+(4+G+A),none⟩) (n - 19 - (4+G+A)) (cp - 19 - (4+G+A)) Q b):=fun X hX=>by
 obtain ⟨_,n1,n2⟩:=h.nc.out
 have hs:=brd_sub (a:=if cp - 19=4+G+A then some ⟨g,o+19,none⟩ else some ⟨g,o+19+(4+G+A),none⟩) (k:=4+G+A) (l:=n - 19 - (4+G+A)) (c:=cp - 19) (h.hB.below hX) (by rw [h.hBl]; omega) (by rw [h.hBl]; omega) rfl
 rw [List.take_of_length_le (by rw [List.length_drop,h.hBl]; omega)] at hs
 have e4:4+G+A=G+4+A:=by omega
 have hl:((bs.drop 19).drop (4+G+A)).length=n - 19 - (4+G+A):=by rw [List.length_drop,h.hBl]
 rw [← e4] at hQ hb
 by_cases e10:cp - 19=4+G+A
 ·rw [if_pos e10] at hs ⊢
  exact pfk_of hl (by omega) (by omega) hs hQ hb
 ·rw [if_neg e10] at hs ⊢
  exact pfk_of hl (by omega) (by omega) hs hQ hb
theorem ka_of {g o n cp lo:Nat}{kd:Int}{bs:List Nat}{w:World} (h:RF g o n cp lo kd bs w) {G A:Nat} (hu:G+4+A≤n - 19) {r:Res} (hr:readA (((bs.drop 19).drop (4+G)).take A)=r) :
  Hid (∀ X,Below w.heap.size w X→Calls Tryz.prog 31 #[.slice (some ⟨g,o+19+(4+G),none⟩) (4+G+A - (4+G)) (cp - 19 - (4+G))] X fun e w'=>DecA X w' r e∧Hid (Below X.heap.size X w')):=fun X hX=>by
 subst hr
 obtain ⟨_,n1,n2⟩:=h.nc.out
 have hl:(((bs.drop 19).drop (4+G)).take A).length=4+G+A - (4+G):=by rw [List.length_take,List.length_drop,h.hBl]; omega
 have h9:=reada_any (some ⟨g,o+19+(4+G),none⟩) (cp - 19 - (4+G)) (((bs.drop 19).drop (4+G)).take A) X (by rw [hl]; omega) (by rw [hl]; omega) (brd_from (h.hB.below hX) (4+G) A (by rw [h.hBl]; omega))
 rw [hl] at h9
 exact h9.mono fun e w' h=>⟨h.1,h.2⟩
section
attribute [local go_sem ↓] keptM_load keptM_store keptM_alloc keptM_build
set_option maxHeartbeats 4000000 in
theorem rdec_u1 (g o n cp:Nat)(bs:List Nat)(w:World)(hn:bs.length=n)(hn23:23≤n)(hl:n≤5000)(hcap:n≤cp)(h:BRd w (some ⟨g,o,none⟩) bs)(hr:headM bs=(n,0,0,[]))(hk2:bs.getD 18 0=2)(G:Nat)(hG:G=256 * (bs.drop 19).getD 0 0+(bs.drop 19).getD 1 0)(hu:n - 19 < G+4) :
  Calls Tryz.prog 11 #[.slice (some ⟨g,o,none⟩) n cp] w fun e w'=>BadIs w w' e 3 1 []∧Below w.heap.size w w':=by
 have KH:=read_facts g o n cp 4 bs w 2 hn (by omega) (by omega) hl hcap h hr (by rw [hk2]; rfl)
 have hF:=KH
 obtain ⟨c18,zg,HK,HC,HLT,HNC,H29,hcp19,hz0,hB,HBl,KE⟩:=hF
 unfold NtK at KE
 have hui:((n - 19:Nat):Int) < (G:Int)+4:=by omega
 clear hu KH h hcap hr hn hk2 hl hn23 hB HBl
 unfold BadIs NoteIs
 go_enter Tryz.func11,Tryz.ntmps11
 go_wp2_with (refine keptM_alloc_intro _ (run_allocM w) ?_)
 show Calls Tryz.prog 20 #[.slice (some ⟨g,o,none⟩) n cp] (dW w) _
 with_reducible refine HK.out.mono ?_
 rintro e w1 ⟨a9,c9,rfl,HB⟩
 have HH:=hide (h6_of a9 0 c9 HB.out zg c18)
 go_wp2_with fail
 generalize (w1.alloc (.cells #[.int .i64 0,.int .i64 0,.slice a9 0 c9] 38))=W at *
 refine rm_region _ W g o n cp 2 (opi rfl) (opi rfl) (opi rfl) (opi rfl) (opi rfl) (opi rfl) (opi rfl) (opi rfl) (opi rfl) (opi rfl) rfl (by kernel_rfl)
  (by kernel_rfl) (by kernel_rfl) (by kernel_rfl) (by kernel_rfl) (by kernel_rfl) (by kernel_rfl) (by kernel_rfl) (by kernel_rfl) (by kernel_rfl) (by kernel_rfl) (by kernel_rfl)
  rfl rfl (by have:=H29.out.1; omega) (by have:=H29.out.2; omega) (by omega) HH.out.c18 ?_
 intro a W6 hfr h6 h7 bY hb6
 rw [if_neg hcp19] at h7
 obtain ⟨x0,x1,x2,x3,x4,x5,x6,rfl⟩:=hfr.lay9m (by exact (by decide:∀ s∈[39,40,41,42,43,44,45,6,7],s < 247)) h6 h7
 have HD:Hid (D6 w W6 w1.heap.size W.heap.size (msgC 2 0 0 (.slice none 0 0)) (.slice a9 0 c9)):=HH.out.d6 bY hb6
 have y0:W6.cell? ⟨W.heap.size,0,none⟩=some (.int .i64 2):=range_of HD.out.bY 0 _ rfl
 have zY:W.heap.size < W6.heap.size:=HD.out.hs
 have HZ:=hide HH.out.sz
 have HBW2:=hide HH.out.bel
 have hsz:=HH.out.le
 clear hfr h6 h7 bY hb6
 simp only [Act.put,List.setIfInBounds_toArray,List.set_cons_zero,List.set_cons_succ]
 have HMW:Hid (MW w W6):=⟨HD.out.bM,HD.out.bN,HD.out.bel⟩
 have q0:=HC.out W6 HD.out.bel 0 (by have:=HNC.out; omega)
 have q1:=HC.out W6 HD.out.bel 1 (by have:=HNC.out; omega)
 rw [Nat.add_zero] at q0
 have HBL:=hide HD.out.bel
 have HYL:=hide HD.out.bY
 generalize n - 19=N at *
 generalize cp - 19=CP at *
 have hl0:=HLT.out 0
 have hl1:=HLT.out 1
 generalize (bs.drop 19).getD 0 0=v0 at *
 generalize (bs.drop 19).getD 1 0=v1 at *
 have HG:Hid (256 * (v0:Int)+(v1:Int)=(G:Int)):=by show _=_; omega
 have hGi:(G:Int) < 65536:=by omega
 have HGn:Hid (G < 65536):=by show _ < _; omega
 clear hG
 obtain ⟨hN4,hNC,hN5⟩:=HNC.out
 have hN0i:(0:Int) < (N:Int):=by omega
 have hN1i:(1:Int) < (N:Int):=by omega
 have hN5i:(N:Int)≤5000:=by omega
 have HZg:g < W6.heap.size:=by have:=HBL.out.size; omega
 clear hN5
 have hbd:∀ m,Below W6.heap.size W6 (W6.drewN m):=fun m=>below_drewN (Below.refl _ _) m
 have HDD:=hide hbd
 clear hbd
 go_wp2_with fail
 go_quiet (fail)
 rw [HG.out]
 have HBV:Hid (Below w.heap.size w (W6.drewN nq)):=HBL.out.trans ((HDD.out nq).mono HBL.out.size)
 have HMV:=hide (HMW.out.later (HDD.out nq))
 have HYV:Hid ((W6.drewN nq).heap[W.heap.size]?=some (.cells (msgC 2 0 0 (.slice none 0 0)) 40 (0,0))):=HYL.out
 have HZV:g < (W6.drewN nq).heap.size:=HZg
 have zYV:W.heap.size < (W6.drewN nq).heap.size:=zY
 generalize W6.drewN nq=V0 at *
 clear q0 q1
 clear HC HLT
 go_wp2_with fail
 go_wp2_with (refine keptM_build0_intro _ (run_build0M _) ?_)
 refine (KE.out 3 _ 1 HMV.out).mono ?_
 rintro e w3 ⟨a8,c8,W5,rfl,HST,HX,HF⟩
 obtain ⟨_,r0,r1,r2,f0,f1,f2⟩:=HX.out
 go_wp2_with (refine keptM_store_intro _ _ (.pointer (some ⟨w.heap.size,0,none⟩)) (.agg zM) (by rfl) (by rfl) HST.out ?_)
 refine bodyPost_ret (v:=.tuple #[.agg zM,.agg #[.int .i64 3,.int .i64 1,.slice a8 0 c8]]) (res_cells2 Tryz.results11 _ _ w.heap.size (w.heap.size+1) zM #[.int .i64 3,.int .i64 1,.slice a8 0 c8] rfl rfl HF.out.rM HF.out.rN Tryz.underlying40 rfl infoM Tryz.underlying38 rfl infoN) rfl ⟨?_,HF.out.bel⟩
 exact ⟨_,rfl,a8,c8,rfl,HF.out.own⟩
set_option maxHeartbeats 4000000 in
theorem rdec_u2 (g o n cp:Nat)(bs:List Nat)(w:World)(hn:bs.length=n)(hn23:23≤n)(hl:n≤5000)(hcap:n≤cp)(h:BRd w (some ⟨g,o,none⟩) bs)(hr:headM bs=(n,0,0,[]))(hk2:bs.getD 18 0=2)(G:Nat)(hG:G=256 * (bs.drop 19).getD 0 0+(bs.drop 19).getD 1 0)(A:Nat)(hA:A=256 * (bs.drop 19).getD (2+G) 0+(bs.drop 19).getD (3+G) 0)(hu:G+4≤n - 19)(hu2:n - 19 < G+4+A) :
  Calls Tryz.prog 11 #[.slice (some ⟨g,o,none⟩) n cp] w fun e w'=>BadIs w w' e 3 1 []∧Below w.heap.size w w':=by
 have KH:=read_facts g o n cp 4 bs w 2 hn (by omega) (by omega) hl hcap h hr (by rw [hk2]; rfl)
 have hF:=KH
 obtain ⟨c18,zg,HK,HC,HLT,HNC,H29,hcp19,hz0,hB,HBl,KE⟩:=hF
 unfold NtK at KE
 have hui:decide (n - 19 < 4+G)=false:=decide_eq_false (by omega)
 have HGA:Hid (A < 65536):=by
  have a1:=HLT.out (2+G)
  have a2:=HLT.out (3+G)
  show A < 65536
  omega
 clear hu KH h hcap hr hn hk2 hl hn23 hB HBl
 unfold BadIs NoteIs
 go_enter Tryz.func11,Tryz.ntmps11
 go_wp2_with (refine keptM_alloc_intro _ (run_allocM w) ?_)
 show Calls Tryz.prog 20 #[.slice (some ⟨g,o,none⟩) n cp] (dW w) _
 with_reducible refine HK.out.mono ?_
 rintro e w1 ⟨a9,c9,rfl,HB⟩
 have HH:=hide (h6_of a9 0 c9 HB.out zg c18)
 go_wp2_with fail
 generalize (w1.alloc (.cells #[.int .i64 0,.int .i64 0,.slice a9 0 c9] 38))=W at *
 refine rm_region _ W g o n cp 2 (opi rfl) (opi rfl) (opi rfl) (opi rfl) (opi rfl) (opi rfl) (opi rfl) (opi rfl) (opi rfl) (opi rfl) rfl (by kernel_rfl)
  (by kernel_rfl) (by kernel_rfl) (by kernel_rfl) (by kernel_rfl) (by kernel_rfl) (by kernel_rfl) (by kernel_rfl) (by kernel_rfl) (by kernel_rfl) (by kernel_rfl) (by kernel_rfl)
  rfl rfl (by have:=H29.out.1; omega) (by have:=H29.out.2; omega) (by omega) HH.out.c18 ?_
 intro a W6 hfr h6 h7 bY hb6
 rw [if_neg hcp19] at h7
 obtain ⟨x0,x1,x2,x3,x4,x5,x6,rfl⟩:=hfr.lay9m (by exact (by decide:∀ s∈[39,40,41,42,43,44,45,6,7],s < 247)) h6 h7
 have HD:Hid (D6 w W6 w1.heap.size W.heap.size (msgC 2 0 0 (.slice none 0 0)) (.slice a9 0 c9)):=HH.out.d6 bY hb6
 have y0:W6.cell? ⟨W.heap.size,0,none⟩=some (.int .i64 2):=range_of HD.out.bY 0 _ rfl
 have zY:W.heap.size < W6.heap.size:=HD.out.hs
 have HZ:=hide HH.out.sz
 have HBW2:=hide HH.out.bel
 have hsz:=HH.out.le
 clear hfr h6 h7 bY hb6
 simp only [Act.put,List.setIfInBounds_toArray,List.set_cons_zero,List.set_cons_succ]
 have HMW:Hid (MW w W6):=⟨HD.out.bM,HD.out.bN,HD.out.bel⟩
 have q0:=HC.out W6 HD.out.bel 0 (by have:=HNC.out; omega)
 have q1:=HC.out W6 HD.out.bel 1 (by have:=HNC.out; omega)
 rw [Nat.add_zero] at q0
 have HBL:=hide HD.out.bel
 have HYL:=hide HD.out.bY
 generalize n - 19=N at *
 generalize cp - 19=CP at *
 have hl0:=HLT.out 0
 have hl1:=HLT.out 1
 generalize (bs.drop 19).getD 0 0=v0 at *
 generalize (bs.drop 19).getD 1 0=v1 at *
 have HG:Hid (256 * (v0:Int)+(v1:Int)=(G:Int)):=by show _=_; omega
 have hGi:(G:Int) < 65536:=by omega
 have HGn:Hid (G < 65536):=by show _ < _; omega
 clear hG
 obtain ⟨hN4,hNC,hN5⟩:=HNC.out
 have hN0i:(0:Int) < (N:Int):=by omega
 have hN1i:(1:Int) < (N:Int):=by omega
 have hN5i:(N:Int)≤5000:=by omega
 have HZg:g < W6.heap.size:=by have:=HBL.out.size; omega
 clear hN5
 have hbd:∀ m,Below W6.heap.size W6 (W6.drewN m):=fun m=>below_drewN (Below.refl _ _) m
 have HDD:=hide hbd
 clear hbd
 go_wp2_with fail
 go_quiet (fail)
 rw [HG.out]
 have HBV:Hid (Below w.heap.size w (W6.drewN nq)):=HBL.out.trans ((HDD.out nq).mono HBL.out.size)
 have HMV:=hide (HMW.out.later (HDD.out nq))
 have HYV:Hid ((W6.drewN nq).heap[W.heap.size]?=some (.cells (msgC 2 0 0 (.slice none 0 0)) 40 (0,0))):=HYL.out
 have HZV:g < (W6.drewN nq).heap.size:=HZg
 have zYV:W.heap.size < (W6.drewN nq).heap.size:=zY
 generalize W6.drewN nq=V0 at *
 clear q0 q1
 obtain ⟨G2,hG2n⟩:∃ G2,G2=2+G:=⟨_,rfl⟩
 obtain ⟨G3,hG3n⟩:∃ G3,G3=3+G:=⟨_,rfl⟩
 obtain ⟨G4,hG4n⟩:∃ G4,G4=4+G:=⟨_,rfl⟩
 have hG2:(2:Int)+(G:Int)=(G2:Int):=by omega
 have hG3:(3:Int)+(G:Int)=(G3:Int):=by omega
 have hG4:(4:Int)+(G:Int)=(G4:Int):=by omega
 have hG4':(G:Int)+4=(G4:Int):=by omega
 rw [← hG4n] at hui
 have huN:G4≤N:=by
  have:=of_decide_eq_false hui
  omega
 have q2:=HC.out V0 HBV.out (2+G) (by omega)
 have q3:=HC.out V0 HBV.out (3+G) (by omega)
 rw [← hG2n] at q2 hA
 rw [← hG3n] at q3 hA
 have hl2:=HLT.out G2
 have hl3:=HLT.out G3
 generalize (bs.drop 19).getD G2 0=v2 at *
 generalize (bs.drop 19).getD G3 0=v3 at *
 have HA:Hid (256 * (v2:Int)+(v3:Int)=(A:Int)):=by show _=_; omega
 clear hA
 have hG2N:G2 < N:=by omega
 have hG3N:G3 < N:=by omega
 have hG4i:(G4:Int)≤70000:=by omega
 have HNs:Hid (G2=2+G∧G3=3+G∧G4=4+G):=⟨hG2n,hG3n,hG4n⟩
 have HuN:=hide huN
 clear hG2n hG3n hG4n huN
 have hbd:∀ m,Below V0.heap.size V0 (V0.drewN m):=fun m=>below_drewN (Below.refl _ _) m
 have HDE:=hide hbd
 clear hbd
 go_wp2_with fail
 go_quiet (fail)
 rw [HA.out]
 have HBX:Hid (Below w.heap.size w (V0.drewN nq)):=HBV.out.trans ((HDE.out nq).mono HBV.out.size)
 have HMX:=hide (HMV.out.later (HDE.out nq))
 have HYX:Hid ((V0.drewN nq).heap[W.heap.size]?=some (.cells (msgC 2 0 0 (.slice none 0 0)) 40 (0,0))):=HYV.out
 have HZX:g < (V0.drewN nq).heap.size:=HZV
 have zYX:W.heap.size < (V0.drewN nq).heap.size:=zYV
 generalize V0.drewN nq=V1 at *
 clear q2 q3
 obtain ⟨GA,hGAn⟩:∃ GA,GA=G4+A:=⟨_,rfl⟩
 have hGA:(G4:Int)+(A:Int)=(GA:Int):=by omega
 have hGAi:(GA:Int)≤140000:=by have:=HGA.out; omega
 have hAi:(A:Int) < 65536:=by have:=HGA.out; omega
 have hu2i:N < GA:=by have:=HNs.out; omega
 clear HC HLT hu2 hGAn
 go_wp2_with fail
 go_wp2_with (refine keptM_build0_intro _ (run_build0M _) ?_)
 refine (KE.out 3 _ 1 HMX.out).mono ?_
 rintro e w3 ⟨a8,c8,W5,rfl,HST,HX,HF⟩
 obtain ⟨_,r0,r1,r2,f0,f1,f2⟩:=HX.out
 go_wp2_with (refine keptM_store_intro _ _ (.pointer (some ⟨w.heap.size,0,none⟩)) (.agg zM) (by rfl) (by rfl) HST.out ?_)
 refine bodyPost_ret (v:=.tuple #[.agg zM,.agg #[.int .i64 3,.int .i64 1,.slice a8 0 c8]]) (res_cells2 Tryz.results11 _ _ w.heap.size (w.heap.size+1) zM #[.int .i64 3,.int .i64 1,.slice a8 0 c8] rfl rfl HF.out.rM HF.out.rN Tryz.underlying40 rfl infoM Tryz.underlying38 rfl infoN) rfl ⟨?_,HF.out.bel⟩
 exact ⟨_,rfl,a8,c8,rfl,HF.out.own⟩
end
end Go.Proofs.YtogbjeaceboemaaGreatDoor
