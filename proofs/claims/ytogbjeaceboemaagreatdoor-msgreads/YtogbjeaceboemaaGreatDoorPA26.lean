import Derived.Test.YtogbjeaceboemaaGreatDoorPA25
import Derived.Test.YtogbjeaceboemaaGreatDoorPA8
namespace Go.Proofs.YtogbjeaceboemaaGreatDoor
open Go.RowKit
set_option maxRecDepth 100000
section
attribute [local go_sem ↓] keptU_store keptU_alloc keptU_build keptU_load
set_option maxHeartbeats 4000000 in
theorem readup_agood0 (a:Option Addr)(n c:Nat)(bs p q at_ nl:List Nat)(w:World)(hn:bs.length=n)(hl:n≤5000)(hcap:n≤c)(h:BRd w a bs)(h1:cutP 2 bs=some (p,q))(h2:cutP 2 q=some (at_,nl))(hS:Said w)(G:List (Nat×Nat))(h3:pfxB p=some G)(h4:pfxB nl=some [])(h5:at_≠[])(b:At)(h6:readA at_=.inr b) :
  Calls Tryz.prog 26 #[.slice a n c] w fun e w'=>UpOk w w' e G [] zA7∧Below w.heap.size w w':=by
 have HW:Hid (UW w ((w.alloc (.cells zU 36)).alloc (.cells #[.int .i64 0,.int .i64 0,.slice none 0 0] 38))):=UW.made w
 obtain ⟨lp,lq⟩:=cutP_len h1
 obtain ⟨la,ln⟩:=cutP_len h2
 have hc1:=mcut_any a c 2 bs ((w.alloc (.cells zU 36)).alloc (.cells #[.int .i64 0,.int .i64 0,.slice none 0 0] 38)) (by omega) (by omega) (by omega) (by omega) (h.below HW.out.bel)
 rw [h1,hn] at hc1
 have HC1:=hide hc1
 have HC2:Hid (∀ m aq cq,q.length≤cq→BRd ((w.alloc (.cells zU 36)).alloc (.cells #[.int .i64 0,.int .i64 0,.slice none 0 0] 38)) aq q→Calls Tryz.prog 42 #[.slice aq q.length cq,.int .i64 2] (((w.alloc (.cells zU 36)).alloc (.cells #[.int .i64 0,.int .i64 0,.slice none 0 0] 38)).drewN m) fun e w'=>∃ ap2 cp2 aq2 cq2,e=.returned (.tuple #[.slice ap2 at_.length cp2,.slice aq2 nl.length cq2,.bool true])∧at_.length≤cp2∧nl.length≤cq2∧Hid (BRd w' ap2 at_)∧Hid (BRd w' aq2 nl)∧Hid (Below ((w.alloc (.cells zU 36)).alloc (.cells #[.int .i64 0,.int .i64 0,.slice none 0 0] 38)).heap.size ((w.alloc (.cells zU 36)).alloc (.cells #[.int .i64 0,.int .i64 0,.slice none 0 0] 38)) w')):=fun m aq cq h5 h6=>by
  have:=mcut_any aq cq 2 q (((w.alloc (.cells zU 36)).alloc (.cells #[.int .i64 0,.int .i64 0,.slice none 0 0] 38)).drewN m) (by omega) (by omega) (by omega) h5 (h6.below ⟨rfl,rfl,rfl,Nat.le_refl _,fun _ _=>rfl⟩)
  rw [h2] at this
  refine this.mono ?_
  rintro e w' ⟨⟨ap2,cp2,aq2,cq2,e1,e2,e3,e4,e5⟩,m2,rfl⟩
  have hb:Below (((w.alloc (.cells zU 36)).alloc (.cells #[.int .i64 0,.int .i64 0,.slice none 0 0] 38)).drewN m).heap.size (((w.alloc (.cells zU 36)).alloc (.cells #[.int .i64 0,.int .i64 0,.slice none 0 0] 38)).drewN m) ((((w.alloc (.cells zU 36)).alloc (.cells #[.int .i64 0,.int .i64 0,.slice none 0 0] 38)).drewN m).drewN m2):=⟨rfl,rfl,rfl,Nat.le_refl _,fun _ _=>rfl⟩
  exact ⟨ap2,cp2,aq2,cq2,e1,e2,e3,e4.below hb,e5.below hb,⟨rfl,rfl,rfl,Nat.le_refl _,fun _ _=>rfl⟩⟩
 have KP1:Hid (∀ X ap cp,p.length≤cp→BRd X ap p→Calls Tryz.prog 45 #[.slice ap p.length cp] X fun e w'=>(∃ v,e=.returned (.tuple #[v,.bool true])∧w'.ownsRow X.heap.size 96 2 v G.length (pcells G))∧Below X.heap.size X w'):=fun X ap cp h5 h6=>by
  have:=pdecB_any ap cp p X (by omega) h5 h6
  rw [h3] at this
  exact this
 have KP2:Hid (∀ X ap cp,nl.length≤cp→BRd X ap nl→Calls Tryz.prog 45 #[.slice ap nl.length cp] X fun e w'=>(∃ v,e=.returned (.tuple #[v,.bool true])∧w'.ownsRow X.heap.size 96 2 v 0 [])∧Below X.heap.size X w'):=fun X ap cp h5 h6=>by
  have:=pdecB_any ap cp nl X (by omega) h5 h6
  rw [h4] at this
  exact this
 have KD:Hid (∀ X ap cp,Below w.heap.size w X→at_.length≤cp→BRd X ap at_→Calls Tryz.prog 46 #[.slice ap at_.length cp] X fun e w'=>DecA X w' (readA at_) e∧Below X.heap.size X w'):=fun X ap cp hX h5 h6=>decode_any ap cp at_ X (hS.below hX) (by omega) h5 h6
 have hc8:((at_.length:Int) == 0)=false:=by
  have:at_.length≠0:=fun e=>h5 (List.length_eq_zero_iff.1 e)
  simp; omega
 unfold CutIs at HC1
 simp only [h6,DecA,atV] at KD
 unfold UpOk
 simp only at HC1
 clear h hc1 h1 h2 hn hl hcap lp lq la ln h3 h4 h5 h6 hS
 generalize q.length=nq at *
 generalize p.length=np at *
 generalize nl.length=nn at *
 generalize at_.length=na at *
 generalize G.length=gl at *
 obtain ⟨og,pth,nx,md,pf,cms,rws⟩:=b
 simp only at KD
 generalize pth.length=pl at *
 generalize cms.length=cl at *
 generalize rws.length=rl at *
 go_enter Tryz.func26,Tryz.ntmps26
 go_wp2_with (first | (refine keptU_alloc_intro _ (run_allocU w) ?_))
 refine HC1.out.mono ?_
 rintro e w1 ⟨⟨ap,cp,aq,cq,rfl,hp1,hq1,hp2,hq2⟩,m,rfl⟩
 have HP2:=hide hp2
 have HQ2:=hide hq2
 clear hp2 hq2
 go_wp2_with fail
 with_reducible refine (HC2.out m aq cq hq1 HQ2.out).mono ?_
 rintro e w2 ⟨ap2,cp2,aq2,cq2,rfl,hap,hnl,HA,HN,HB2⟩
 have HWX:=hide (HW.out.later HB2.out)
 go_wp2_with fail
 with_reducible refine (KP1.out w2 ap cp hp1 (HP2.out.below HB2.out)).mono ?_
 rintro e w3 ⟨⟨v,rfl,ho3⟩,hb3⟩
 obtain ⟨va,vc,rfl⟩:=own_slice ho3
 have HW3:=hide (HWX.out.later hb3)
 have HN3:=hide (HN.out.below hb3)
 have HA3:=hide (HA.out.below hb3)
 have hz2:w.heap.size+2≤w2.heap.size:=(Array.getElem?_eq_some_iff.1 HWX.out.bN).1
 have hz3:w.heap.size+2≤w3.heap.size:=(Array.getElem?_eq_some_iff.1 HW3.out.bN).1
 have HO3:=hide (own_base ho3 hz2)
 clear hb3 ho3
 go_wp2_with fail
 with_reducible refine (KP2.out w3 aq2 cq2 hnl HN3.out).mono ?_
 rintro e w4 ⟨⟨v2,rfl,ho4⟩,hb4⟩
 obtain ⟨ua,uc,rfl⟩:=own_slice ho4
 have HW4:=hide (HW3.out.later hb4)
 have HA4:=hide (HA3.out.below hb4)
 have HO4:=hide (own_base ho4 hz3)
 have HO3':=hide (own_later HO3.out hb4)
 have hz4:w.heap.size+2≤w4.heap.size:=(Array.getElem?_eq_some_iff.1 HW4.out.bN).1
 clear hb4 ho4
 have hUC:UC (updC (.slice va gl vc) zA7 (.slice ua 0 uc)):=UC.upd rfl rfl rfl (by simp [zA7,Value.oneCell'])
 obtain ⟨W5,hst5,hb5,bel5⟩:=store_upd w4 (updC (.slice va gl vc) zA7 (.slice ua 0 uc)) hUC
 have HW5:=hide (HW4.out.later bel5)
 have HA5:=hide (HA4.out.below bel5)
 have HST5:=hide hst5
 have HB5:=hide hb5
 have HOA:=hide (own_later HO3'.out bel5)
 have HOB:=hide (own_later HO4.out bel5)
 have hz5:w4.heap.size < W5.heap.size:=(Array.getElem?_eq_some_iff.1 hb5).1
 clear hst5 hb5 bel5
 go_wp2_with (first
  | (refine keptU_build2_intro 0 2 _ _ (.slice va gl vc) (.slice ua 0 uc) (.agg (updC (.slice va gl vc) zA7 (.slice ua 0 uc))) (by rfl) (by rfl) (run_build2U _ _ _ _ _ _ _) ?_)
  | (refine keptU_alloc_intro _ (run_allocU w4) ?_)
  | (refine keptU_store_intro _ _ (.pointer (some ⟨w4.heap.size,0,none⟩)) (.agg (updC (.slice va gl vc) zA7 (.slice ua 0 uc))) (by rfl) (by rfl) HST5.out ?_))
 with_reducible refine (KD.out W5 ap2 cp2 HW5.out.bel hap HA5.out).mono ?_
 rintro e w6 ⟨⟨p1,k1,p5,k5,p6,k6,rfl,_,_,_⟩,hb6⟩
 have HWS:Hid (UW w ((w6.alloc (.cells #[.int .i64 og,.slice p1 pl k1,.int .u32 (nx:Int),.int .i64 md,.int .i64 pf,.slice p5 cl k5,.slice p6 rl k6] 34)).alloc (.cells #[.int .i64 0,.int .i64 0,.slice none 0 0] 38))):=((HW5.out.later hb6).later ((Below.refl _ _).alloc (Nat.le_refl _) _)).later ((Below.refl _ _).alloc (Nat.le_refl _) _)
 have hb7:Below W5.heap.size W5 ((w6.alloc (.cells #[.int .i64 og,.slice p1 pl k1,.int .u32 (nx:Int),.int .i64 md,.int .i64 pf,.slice p5 cl k5,.slice p6 rl k6] 34)).alloc (.cells #[.int .i64 0,.int .i64 0,.slice none 0 0] 38)):=(hb6.alloc hb6.size _).alloc (by have:=hb6.size; simp; omega) _
 have hY7:((w6.alloc (.cells #[.int .i64 og,.slice p1 pl k1,.int .u32 (nx:Int),.int .i64 md,.int .i64 pf,.slice p5 cl k5,.slice p6 rl k6] 34)).alloc (.cells #[.int .i64 0,.int .i64 0,.slice none 0 0] 38)).heap[w4.heap.size]?=some (.cells (updC (.slice va gl vc) zA7 (.slice ua 0 uc)) 36 (0,0)):=by rw [hb7.block _ hz5]; exact HB5.out
 obtain ⟨W8,hst8,hx8,hf8⟩:=upd_fin w ((w6.alloc (.cells #[.int .i64 og,.slice p1 pl k1,.int .u32 (nx:Int),.int .i64 md,.int .i64 pf,.slice p5 cl k5,.slice p6 rl k6] 34)).alloc (.cells #[.int .i64 0,.int .i64 0,.slice none 0 0] 38)) (updC (.slice va gl vc) zA7 (.slice ua 0 uc)) hUC HWS.out
 have HST8:=hide hst8
 have HF8:=hide hf8
 have HL7:=hide (run_loadU (range_of hY7) hUC)
 have HOA7:=hide (own_later HOA.out hb7)
 have HOB7:=hide (own_later HOB.out hb7)
 obtain ⟨_,r0,r1,r2,f0,f1,f2⟩:=hx8
 clear hst8 hf8 hb6 hb7 hY7
 go_wp2_with (first
  | (refine keptU_load_intro _ (.pointer (some ⟨w4.heap.size,0,none⟩)) (.agg (updC (.slice va gl vc) zA7 (.slice ua 0 uc))) (by rfl) HL7.out ?_)
  | (refine keptU_store_intro _ _ (.pointer (some ⟨w.heap.size,0,none⟩)) (.agg (updC (.slice va gl vc) zA7 (.slice ua 0 uc))) (by rfl) (by rfl) HST8.out ?_))
 refine bodyPost_ret (v:=.tuple #[.agg (updC (.slice va gl vc) zA7 (.slice ua 0 uc)),.agg #[.int .i64 0,.int .i64 0,.slice none 0 0]]) (res_cells2 Tryz.results26 _ _ w.heap.size (w.heap.size+1) (updC (.slice va gl vc) zA7 (.slice ua 0 uc)) #[.int .i64 0,.int .i64 0,.slice none 0 0] rfl rfl HF8.out.rU HF8.out.rN Tryz.underlying36 rfl (by rw [infoU,hUC.1]) Tryz.underlying38 rfl infoN) rfl ⟨⟨_,_,rfl,?_,?_⟩,HF8.out.bel⟩
 ·exact own_low (own_keep HOA7.out HF8.out.keep (fun x hx=>by omega)) (by omega)
 ·exact own_low (own_keep HOB7.out HF8.out.keep (fun x hx=>by omega)) (by omega)
end
end Go.Proofs.YtogbjeaceboemaaGreatDoor
