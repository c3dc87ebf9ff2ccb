import Derived.Test.YtogbjeaceboemaaGreatDoorPA26
import Derived.Test.YtogbjeaceboemaaGreatDoorPA8
import Derived.Test.YtogbjeaceboemaaGreatDoorPA25
namespace Go.Proofs.YtogbjeaceboemaaGreatDoor
open Go.RowKit
set_option maxRecDepth 100000
theorem infoA:(Tryz.prog.info? 34).map (·.size)=some 7:=by kernel_rfl
section
variable {P:Program}{a:Act}{w w':World}{K:Act→World→Prop}{Q:Exit→Act→World→Prop}{dst:Option Tmp}{ty:TypeId}{pos:String}{after:Array Edge}{gd:Option (Nat×Bool)}
theorem keptA_store (y:Operand):Oper.wp P { dst:=dst,op:=.store 34 (.tmp 82) y,type:=ty,pos:=pos,after:=after,guard:=gd } a w K Q=Kept P { dst:=dst,op:=.store 34 (.tmp 82) y,type:=ty,pos:=pos,after:=after,guard:=gd } a w K Q:=rfl
theorem keptA_store_intro (y:Operand)(p v:Value)(hx:a.eval (.tmp 82)=p)(hy:a.eval y=v)(hr:(Instr.storeAt 34 p v).run P w=.ok () w')(h:K (a.put dst undef) w'):Kept P { dst:=dst,op:=.store 34 (.tmp 82) y,type:=ty,pos:=pos,after:=after,guard:=gd } a w K Q:=by
 unfold Kept Oper.wp execOp
 simp only [hx,hy,Sem.run_bind,hr,Result.andThen_ok,Sem.run_pure]
 exact h
end
theorem store_attrs {w:World}{Y:Nat}{v u:Value}{A:Array Value} (hA:A.size=7) (hA2:A.all (·.oneCell')=true) (h:w.heap[Y]?=some (.cells (updC v zA7 u) 36 (0,0))) :
  ∃ W8,(Instr.storeAt 34 (.pointer (some ⟨Y,1,none⟩)) (.agg A)).run Tryz.prog w=.ok () W8∧W8.heap[Y]?=some (.cells (updC v A u) 36 (0,0))∧Keeps (fun x=>x=Y) w W8:=by
 have s9:(updC v zA7 u).size=9:=by simp [updC,zA7]
 have ht:w.there Y 1 A.size:=fun j hj=>by
  rw [hA] at hj
  refine ⟨?_,by simp [World.frozen?,h]⟩
  simp only [World.cell?,h]
  rw [Array.getElem?_eq_getElem (by omega)]
  rfl
 have hk:Keeps (fun x=>x=Y) w (w.setCells Y 1 A.toList):=(Keeps.refl _ _).setCells Y 1 _ (.inl rfl)
 refine ⟨w.setCells Y 1 A.toList,run_storeAt_mid (P:=Tryz.prog) w Y 1 34 A ht (by rw [infoA,hA]) hA2,?_,hk⟩
 obtain ⟨C',h2,h3⟩:=shape_set A.toList 1 w _ h
 have hin:=World.rangeAt_setCells_same w Y 1 A.toList (by simpa using ht)
 have hC:∀ j,C'[j]?=(w.setCells Y 1 A.toList).cell? ⟨Y,j,none⟩:=fun j=>by simp [World.cell?,h2]
 have h0:∀ j,(updC v zA7 u)[j]?=w.cell? ⟨Y,j,none⟩:=fun j=>by simp [World.cell?,h]
 have:C'=updC v A u:=by
  apply Array.ext_getElem?
  intro j
  rw [hC]
  by_cases hj:1≤j∧j < 8
  ·have h5:=hin (j - 1) A[j - 1] (by rw [Array.getElem?_toList,Array.getElem?_eq_getElem (by omega)])
   rw [show 1+(j - 1)=j by omega] at h5
   rw [h5]
   unfold updC
   rw [Array.getElem?_append_left (by simp; omega),Array.getElem?_append_right (by simp; omega)]
   simp [Array.getElem?_eq_getElem (show j - 1 < A.size by omega)]
  ·rw [World.cell?_setCells_out Y A.toList 1 w ⟨Y,j,none⟩ (fun _ _=>by show j < 1∨1+A.toList.length≤j; simp [hA]; omega),← h0]
   unfold updC
   by_cases hj0:j=0
   ·subst hj0
    rw [Array.getElem?_append_left (by simp; omega),Array.getElem?_append_left (by simp),Array.getElem?_append_left (by simp; omega),Array.getElem?_append_left (by simp)]
   ·rw [Array.getElem?_append_right (by simp [zA7]; omega),Array.getElem?_append_right (by simp [hA]; omega)]
    simp [zA7,hA]
 rw [h2,this]
theorem own_keepB {F:Nat→Prop}{w w':World}{B e size n:Nat}{v:Value}{xs:List Value} (h:w.ownsRow B e size v n xs) (hk:Keeps F w w') (hF:∀ x,v.ownBlock=some x→¬ F x):w'.ownsRow B e size v n xs:=by
 refine ⟨h.1,?_⟩
 rcases h.2 with hh | ⟨g,cap,cur,e1,hg,hc,rest⟩
 ·exact .inl hh
 ·exact .inr ⟨g,cap,cur,e1,hg,by rw [hk.block g (Array.getElem?_eq_some_iff.1 hc).1 (hF g (by rw [e1]; rfl))]; exact hc,rest⟩
theorem OwnRaws.keeps {w w':World}{B:Nat}{v:Value}{rs:List (Int×Int×List Nat)}{F:Nat→Prop} (h:OwnRaws w B v rs) (hk:Keeps F w w') (hF:∀ x,B≤x→¬ F x):OwnRaws w' B v rs:=by
 obtain ⟨cs,ho,hc⟩:=h
 refine ⟨cs,own_keep ho hk hF,fun i r hi=>?_⟩
 obtain ⟨h1,h2,u,h3,h4⟩:=hc i r hi
 exact ⟨h1,h2,u,h3,own_keep h4 hk hF⟩
theorem OwnPath.keep {w w':World}{B:Nat}{v:Value}{ss:List (Bool×List Int)}{F:Nat→Prop} (h:OwnPath w B v ss) (hk:Keeps F w w') (hF:∀ x,B≤x→¬ F x):OwnPath w' B v ss:=by
 obtain ⟨cs,ho,hc⟩:=h
 refine ⟨cs,own_keep ho hk hF,fun i s hi=>?_⟩
 obtain ⟨h1,u,h2,h3⟩:=hc i s hi
 exact ⟨h1,u,h2,own_keep h3 hk hF⟩
def AtOwn (w:World)(B:Nat)(A:Array Value)(b:At):Prop:=∃ p1 k1 p5 k5 p6 k6,A=#[.int .i64 b.origin,.slice p1 b.path.length k1,.int .u32 (b.next:Int),.int .i64 b.med,.int .i64 b.pref,.slice p5 b.comms.length k5,.slice p6 b.raws.length k6]∧OwnPath w B (.slice p1 b.path.length k1) b.path∧w.ownsRow B 24 1 (.slice p5 b.comms.length k5) b.comms.length (ucells b.comms)∧OwnRaws w B (.slice p6 b.raws.length k6) b.raws
section
attribute [local go_sem ↓] keptU_store keptU_alloc keptU_build keptU_load keptA_store
set_option maxHeartbeats 4000000 in
theorem readup_agood1 (a:Option Addr)(n c:Nat)(bs p q at_ nl:List Nat)(w:World)(hn:bs.length=n)(hl:n≤5000)(hcap:n≤c)(h:BRd w a bs)(h1:cutP 2 bs=some (p,q))(h2:cutP 2 q=some (at_,nl))(hS:Said w)(G N:List (Nat×Nat))(h3:pfxB p=some G)(h4:pfxB nl=some N)(h5:N≠[])(b:At)(h6:readA at_=.inr b) :
  Calls Tryz.prog 26 #[.slice a n c] w fun e w'=>(∃ A,UpOk w w' e G N A∧AtOwn w' w.heap.size A b)∧Below w.heap.size w w':=by
 have HW:Hid (UW w ((w.alloc (.cells zU 36)).alloc (.cells #[.int .i64 0,.int .i64 0,.slice none 0 0] 38))):=UW.made w
 obtain ⟨lp,lq⟩:=cutP_len h1
 obtain ⟨la,ln⟩:=cutP_len h2
 have hc1:=mcut_any a c 2 bs ((w.alloc (.cells zU 36)).alloc (.cells #[.int .i64 0,.int .i64 0,.slice none 0 0] 38)) (by omega) (by omega) (by omega) (by omega) (h.below HW.out.bel)
 rw [h1,hn] at hc1
 have HC1:=hide hc1
 have HC2:Hid (∀ m aq cq,q.length≤cq→BRd ((w.alloc (.cells zU 36)).alloc (.cells #[.int .i64 0,.int .i64 0,.slice none 0 0] 38)) aq q→Calls Tryz.prog 42 #[.slice aq q.length cq,.int .i64 2] (((w.alloc (.cells zU 36)).alloc (.cells #[.int .i64 0,.int .i64 0,.slice none 0 0] 38)).drewN m) fun e w'=>∃ ap2 cp2 aq2 cq2,e=.returned (.tuple #[.slice ap2 at_.length cp2,.slice aq2 nl.length cq2,.bool true])∧at_.length≤cp2∧nl.length≤cq2∧Hid (BRd w' ap2 at_)∧Hid (BRd w' aq2 nl)∧Hid (Below ((w.alloc (.cells zU 36)).alloc (.cells #[.int .i64 0,.int .i64 0,.slice none 0 0] 38)).heap.size ((w.alloc (.cells zU 36)).alloc (.cells #[.int .i64 0,.int .i64 0,.slice none 0 0] 38)) w')):=fun m aq cq h5 h6=>by
  have:=mcut_any aq cq 2 q (((w.alloc (.cells zU 36)).alloc (.cells #[.int .i64 0,.int .i64 0,.slice none 0 0] 38)).drewN m) (by omega) (by omega) (by omega) h5 (h6.below ⟨rfl,rfl,rfl,Nat.le_refl _,fun _ _=>rfl⟩)
  rw [h2] at this
  refine this.mono ?_
  rintro e w' ⟨⟨ap2,cp2,aq2,cq2,e1,e2,e3,e4,e5⟩,m2,rfl⟩
  have hb:Below (((w.alloc (.cells zU 36)).alloc (.cells #[.int .i64 0,.int .i64 0,.slice none 0 0] 38)).drewN m).heap.size (((w.alloc (.cells zU 36)).alloc (.cells #[.int .i64 0,.int .i64 0,.slice none 0 0] 38)).drewN m) ((((w.alloc (.cells zU 36)).alloc (.cells #[.int .i64 0,.int .i64 0,.slice none 0 0] 38)).drewN m).drewN m2):=⟨rfl,rfl,rfl,Nat.le_refl _,fun _ _=>rfl⟩
  exact ⟨ap2,cp2,aq2,cq2,e1,e2,e3,e4.below hb,e5.below hb,⟨rfl,rfl,rfl,Nat.le_refl _,fun _ _=>rfl⟩⟩
 have KP1:Hid (∀ X ap cp,p.length≤cp→BRd X ap p→Calls Tryz.prog 45 #[.slice ap p.length cp] X fun e w'=>(∃ v,e=.returned (.tuple #[v,.bool true])∧w'.ownsRow X.heap.size 96 2 v G.length (pcells G))∧Below X.heap.size X w'):=fun X ap cp h5 h6=>by
  have:=pdecB_any ap cp p X (by omega) h5 h6
  rw [h3] at this
  exact this
 have KP2:Hid (∀ X ap cp,nl.length≤cp→BRd X ap nl→Calls Tryz.prog 45 #[.slice ap nl.length cp] X fun e w'=>(∃ v,e=.returned (.tuple #[v,.bool true])∧w'.ownsRow X.heap.size 96 2 v N.length (pcells N))∧Below X.heap.size X w'):=fun X ap cp h5 h6=>by
  have:=pdecB_any ap cp nl X (by omega) h5 h6
  rw [h4] at this
  exact this
 have KD:Hid (∀ X ap cp,Below w.heap.size w X→at_.length≤cp→BRd X ap at_→Calls Tryz.prog 46 #[.slice ap at_.length cp] X fun e w'=>DecA X w' (readA at_) e∧Below X.heap.size X w'):=fun X ap cp hX h5 h6=>decode_any ap cp at_ X (hS.below hX) (by omega) h5 h6
 have hc9:((N.length:Int) == 0)=false:=by
  have:N.length≠0:=fun e=>h5 (List.length_eq_zero_iff.1 e)
  simp; omega
 have hc8:(0:Int) < (N.length:Int):=by
  have:N.length≠0:=fun e=>h5 (List.length_eq_zero_iff.1 e)
  omega
 unfold CutIs at HC1
 simp only [h6,DecA,atV] at KD
 unfold UpOk AtOwn
 simp only at HC1
 clear h hc1 h1 h2 hn hl hcap lp lq la ln h3 h4 h5 h6 hS
 generalize q.length=nq at *
 generalize p.length=np at *
 generalize nl.length=nn at *
 generalize at_.length=na at *
 generalize G.length=gl at *
 generalize N.length=nlen at *
 obtain ⟨og,pth,nx,md,pf,cms,rws⟩:=b
 simp only at KD ⊢
 generalize pth.length=pl at *
 generalize cms.length=cl at *
 generalize rws.length=rl at *
 go_enter Tryz.func26,Tryz.ntmps26
 go_wp2_with (first | (refine keptU_alloc_intro _ (run_allocU w) ?_))
 refine HC1.out.mono ?_
 rintro e w1 ⟨⟨ap,cp,aq,cq,rfl,hp1,hq1,hp2,hq2⟩,m,rfl⟩
 have HP2:=hide hp2
 have HQ2:=hide hq2
 clear hp2 hq2
 go_wp2_with fail
 with_reducible refine (HC2.out m aq cq hq1 HQ2.out).mono ?_
 rintro e w2 ⟨ap2,cp2,aq2,cq2,rfl,hap,hnl,HA,HN,HB2⟩
 have HWX:=hide (HW.out.later HB2.out)
 go_wp2_with fail
 with_reducible refine (KP1.out w2 ap cp hp1 (HP2.out.below HB2.out)).mono ?_
 rintro e w3 ⟨⟨v,rfl,ho3⟩,hb3⟩
 obtain ⟨va,vc,rfl⟩:=own_slice ho3
 have HW3:=hide (HWX.out.later hb3)
 have HN3:=hide (HN.out.below hb3)
 have HA3:=hide (HA.out.below hb3)
 have hz2:w.heap.size+2≤w2.heap.size:=(Array.getElem?_eq_some_iff.1 HWX.out.bN).1
 have hz3:w.heap.size+2≤w3.heap.size:=(Array.getElem?_eq_some_iff.1 HW3.out.bN).1
 have HO3:=hide (own_base ho3 hz2)
 clear hb3 ho3
 go_wp2_with fail
 with_reducible refine (KP2.out w3 aq2 cq2 hnl HN3.out).mono ?_
 rintro e w4 ⟨⟨v2,rfl,ho4⟩,hb4⟩
 obtain ⟨ua,uc,rfl⟩:=own_slice ho4
 have HW4:=hide (HW3.out.later hb4)
 have HA4:=hide (HA3.out.below hb4)
 have HO4:=hide (own_base ho4 hz3)
 have HO3':=hide (own_later HO3.out hb4)
 have hz4:w.heap.size+2≤w4.heap.size:=(Array.getElem?_eq_some_iff.1 HW4.out.bN).1
 clear hb4 ho4
 have hUC:UC (updC (.slice va gl vc) zA7 (.slice ua nlen uc)):=UC.upd rfl rfl rfl (by simp [zA7,Value.oneCell'])
 obtain ⟨W5,hst5,hb5,bel5⟩:=store_upd w4 (updC (.slice va gl vc) zA7 (.slice ua nlen uc)) hUC
 have HW5:=hide (HW4.out.later bel5)
 have HA5:=hide (HA4.out.below bel5)
 have HST5:=hide hst5
 have HB5:=hide hb5
 have HOA:=hide (own_later HO3'.out bel5)
 have HOB:=hide (own_later HO4.out bel5)
 have hz5:w4.heap.size < W5.heap.size:=(Array.getElem?_eq_some_iff.1 hb5).1
 clear hst5 hb5 bel5
 go_wp2_with (first
  | (refine keptU_build2_intro 0 2 _ _ (.slice va gl vc) (.slice ua nlen uc) (.agg (updC (.slice va gl vc) zA7 (.slice ua nlen uc))) (by rfl) (by rfl) (run_build2U _ _ _ _ _ _ _) ?_)
  | (refine keptU_alloc_intro _ (run_allocU w4) ?_)
  | (refine keptU_store_intro _ _ (.pointer (some ⟨w4.heap.size,0,none⟩)) (.agg (updC (.slice va gl vc) zA7 (.slice ua nlen uc))) (by rfl) (by rfl) HST5.out ?_))
 with_reducible refine (KD.out W5 ap2 cp2 HW5.out.bel hap HA5.out).mono ?_
 rintro e w6 ⟨⟨p1,k1,p5,k5,p6,k6,rfl,hop,hoc,hor⟩,hb6⟩
 have HWS:Hid (UW w ((w6.alloc (.cells #[.int .i64 og,.slice p1 pl k1,.int .u32 (nx:Int),.int .i64 md,.int .i64 pf,.slice p5 cl k5,.slice p6 rl k6] 34)).alloc (.cells #[.int .i64 0,.int .i64 0,.slice none 0 0] 38))):=((HW5.out.later hb6).later ((Below.refl _ _).alloc (Nat.le_refl _) _)).later ((Below.refl _ _).alloc (Nat.le_refl _) _)
 have hb7:Below W5.heap.size W5 ((w6.alloc (.cells #[.int .i64 og,.slice p1 pl k1,.int .u32 (nx:Int),.int .i64 md,.int .i64 pf,.slice p5 cl k5,.slice p6 rl k6] 34)).alloc (.cells #[.int .i64 0,.int .i64 0,.slice none 0 0] 38)):=(hb6.alloc hb6.size _).alloc (by have:=hb6.size; simp; omega) _
 have hb67:Below w6.heap.size w6 ((w6.alloc (.cells #[.int .i64 og,.slice p1 pl k1,.int .u32 (nx:Int),.int .i64 md,.int .i64 pf,.slice p5 cl k5,.slice p6 rl k6] 34)).alloc (.cells #[.int .i64 0,.int .i64 0,.slice none 0 0] 38)):=((Below.refl _ _).alloc (Nat.le_refl _) _).alloc (by simp) _
 have hY7:((w6.alloc (.cells #[.int .i64 og,.slice p1 pl k1,.int .u32 (nx:Int),.int .i64 md,.int .i64 pf,.slice p5 cl k5,.slice p6 rl k6] 34)).alloc (.cells #[.int .i64 0,.int .i64 0,.slice none 0 0] 38)).heap[w4.heap.size]?=some (.cells (updC (.slice va gl vc) zA7 (.slice ua nlen uc)) 36 (0,0)):=by rw [hb7.block _ hz5]; exact HB5.out
 obtain ⟨W8,hst8,hY8,hk8⟩:=store_attrs (A:=#[.int .i64 og,.slice p1 pl k1,.int .u32 (nx:Int),.int .i64 md,.int .i64 pf,.slice p5 cl k5,.slice p6 rl k6]) rfl (by simp [Value.oneCell']) hY7
 have hUB:UC (updC (.slice va gl vc) #[.int .i64 og,.slice p1 pl k1,.int .u32 (nx:Int),.int .i64 md,.int .i64 pf,.slice p5 cl k5,.slice p6 rl k6] (.slice ua nlen uc)):=UC.upd rfl rfl rfl (by simp [Value.oneCell'])
 have hz7:w.heap.size+1 < w4.heap.size:=by omega
 have HW8:Hid (UW w W8):=⟨by rw [hk8.block _ (by have:=(Array.getElem?_eq_some_iff.1 HWS.out.bU).1; exact this) (by omega)]; exact HWS.out.bU,by rw [hk8.block _ (by have:=(Array.getElem?_eq_some_iff.1 HWS.out.bN).1; exact this) (by omega)]; exact HWS.out.bN,HWS.out.bel.trans (hk8.below _ HWS.out.bel.size (fun x e=>by omega))⟩
 obtain ⟨W9,hst9,hx9,hf9⟩:=upd_fin w W8 (updC (.slice va gl vc) #[.int .i64 og,.slice p1 pl k1,.int .u32 (nx:Int),.int .i64 md,.int .i64 pf,.slice p5 cl k5,.slice p6 rl k6] (.slice ua nlen uc)) hUB HW8.out
 have HST8:=hide hst8
 have HST9:=hide hst9
 have HF9:=hide hf9
 have HL8:=hide (run_loadU (range_of hY8) hUB)
 have HOA8:=hide (own_keepB (own_later HOA.out hb7) hk8 (fun x hx e=>by have:=(own_block HO3'.out x hx).2; omega))
 have HOB8:=hide (own_keepB (own_later HOB.out hb7) hk8 (fun x hx e=>by have:=(own_block HO4.out x hx).2; omega))
 have HP8:=hide ((hop.later hb67).keep hk8 (fun x hx=>by omega))
 have HC8:=hide (own_keep (own_later hoc hb67) hk8 (fun x hx=>by omega))
 have HR8:=hide ((hor.later hb67).keeps hk8 (fun x hx=>by omega))
 obtain ⟨_,r0,r1,r2,f0,f1,f2⟩:=hx9
 clear hst8 hst9 hf9 hb6 hb7 hb67 hY7 hY8 hop hoc hor hk8
 go_wp2_with (first
  | (refine keptA_store_intro _ (.pointer (some ⟨w4.heap.size,1,none⟩)) (.agg #[.int .i64 og,.slice p1 pl k1,.int .u32 (nx:Int),.int .i64 md,.int .i64 pf,.slice p5 cl k5,.slice p6 rl k6]) (by rfl) (by rfl) HST8.out ?_)
  | (refine keptU_load_intro _ (.pointer (some ⟨w4.heap.size,0,none⟩)) (.agg (updC (.slice va gl vc) #[.int .i64 og,.slice p1 pl k1,.int .u32 (nx:Int),.int .i64 md,.int .i64 pf,.slice p5 cl k5,.slice p6 rl k6] (.slice ua nlen uc))) (by rfl) HL8.out ?_)
  | (refine keptU_store_intro _ _ (.pointer (some ⟨w.heap.size,0,none⟩)) (.agg (updC (.slice va gl vc) #[.int .i64 og,.slice p1 pl k1,.int .u32 (nx:Int),.int .i64 md,.int .i64 pf,.slice p5 cl k5,.slice p6 rl k6] (.slice ua nlen uc))) (by rfl) (by rfl) HST9.out ?_))
 refine bodyPost_ret (v:=.tuple #[.agg (updC (.slice va gl vc) #[.int .i64 og,.slice p1 pl k1,.int .u32 (nx:Int),.int .i64 md,.int .i64 pf,.slice p5 cl k5,.slice p6 rl k6] (.slice ua nlen uc)),.agg #[.int .i64 0,.int .i64 0,.slice none 0 0]]) (res_cells2 Tryz.results26 _ _ w.heap.size (w.heap.size+1) (updC (.slice va gl vc) #[.int .i64 og,.slice p1 pl k1,.int .u32 (nx:Int),.int .i64 md,.int .i64 pf,.slice p5 cl k5,.slice p6 rl k6] (.slice ua nlen uc)) #[.int .i64 0,.int .i64 0,.slice none 0 0] rfl rfl HF9.out.rU HF9.out.rN Tryz.underlying36 rfl (by rw [infoU,hUB.1]) Tryz.underlying38 rfl infoN) rfl ⟨⟨#[.int .i64 og,.slice p1 pl k1,.int .u32 (nx:Int),.int .i64 md,.int .i64 pf,.slice p5 cl k5,.slice p6 rl k6],⟨_,_,rfl,?_,?_⟩,p1,k1,p5,k5,p6,k6,rfl,?_,?_,?_⟩,HF9.out.bel⟩
 ·exact own_low (own_keep HOA8.out HF9.out.keep (fun x hx=>by omega)) (by omega)
 ·exact own_low (own_keep HOB8.out HF9.out.keep (fun x hx=>by omega)) (by omega)
 ·exact (HP8.out.keep HF9.out.keep (fun x hx=>by omega)).base (by omega)
 ·exact own_base (own_keep HC8.out HF9.out.keep (fun x hx=>by omega)) (by omega)
 ·exact (HR8.out.keeps HF9.out.keep (fun x hx=>by omega)).base (by omega)
end
end Go.Proofs.YtogbjeaceboemaaGreatDoor
