import Derived.Test.YtogbjeaceboemaaGreatDoorPA10
namespace Go.Proofs.YtogbjeaceboemaaGreatDoor
open Go.RowKit
set_option maxRecDepth 100000
theorem own_slice {w:World}{B e size n:Nat}{v:Value}{xs:List Value} (h:w.ownsRow B e size v n xs):∃ a c,v=.slice a n c:=by
 rcases h.2 with ⟨rfl,h0⟩ | ⟨g,cap,cur,rfl,_⟩
 ·exact ⟨none,0,by rw [h0]⟩
 ·exact ⟨_,_,rfl⟩
theorem store_upd (w:World)(C:Array Value)(hC:UC C):∃ W5,(Instr.storeAt 36 (.pointer (some ⟨w.heap.size,0,none⟩)) (.agg C)).run Tryz.prog (w.alloc (.cells zU 36))=.ok () W5∧W5.heap[w.heap.size]?=some (.cells C 36 (0,0))∧Below w.heap.size w W5:=by
 have h0:(w.alloc (.cells zU 36)).heap[w.heap.size]?=some (.cells zU 36 (0,0)):=heap_alloc_new w _
 have hk:Keeps (fun x=>x=w.heap.size) (w.alloc (.cells zU 36)) ((w.alloc (.cells zU 36)).setCells w.heap.size 0 C.toList):=(Keeps.refl _ _).setCells _ 0 _ (.inl rfl)
 exact ⟨_,run_storeU h0 rfl hC,bx_put h0 hC.1,((Below.refl _ _).alloc (Nat.le_refl _) _).trans (hk.below _ (by simp) (fun x e=>by omega))⟩
structure UFin (w W5 W6:World) (C:Array Value):Prop where
 rU:(W6.setCells (w.heap.size+1) 0 [.int .i64 0,.int .i64 0,.slice none 0 0]).rangeAt w.heap.size 0 C.toList
 rN:(W6.setCells (w.heap.size+1) 0 [.int .i64 0,.int .i64 0,.slice none 0 0]).rangeAt (w.heap.size+1) 0 [.int .i64 0,.int .i64 0,.slice none 0 0]
 keep:Keeps (fun x=>x=w.heap.size∨x=w.heap.size+1) W5 (W6.setCells (w.heap.size+1) 0 [.int .i64 0,.int .i64 0,.slice none 0 0])
 bel:Below w.heap.size w (W6.setCells (w.heap.size+1) 0 [.int .i64 0,.int .i64 0,.slice none 0 0])
theorem upd_fin (w W5:World)(C:Array Value)(hC:UC C)(hW:UW w W5):∃ W6,(Instr.storeAt 36 (.pointer (some ⟨w.heap.size,0,none⟩)) (.agg C)).run Tryz.prog W5=.ok () W6∧NtBox W6 (w.heap.size+1)∧UFin w W5 W6 C:=by
 have h5:(W5.setCells w.heap.size 0 C.toList).heap[w.heap.size]?=some (.cells C 36 (0,0)):=bx_put hW.bU hC.1
 have h6:(W5.setCells w.heap.size 0 C.toList).heap[w.heap.size+1]?=some (.cells #[.int .i64 0,.int .i64 0,.slice none 0 0] 38 (0,0)):=by rw [heap_sets (by omega)]; exact hW.bN
 have hk:Keeps (fun x=>x=w.heap.size∨x=w.heap.size+1) W5 ((W5.setCells w.heap.size 0 C.toList).setCells (w.heap.size+1) 0 [.int .i64 0,.int .i64 0,.slice none 0 0]):=((Keeps.refl _ _).setCells _ 0 _ (.inl (.inl rfl))).setCells _ 0 _ (.inl (.inr rfl))
 refine ⟨_,run_storeU hW.bU rfl hC,nt_ofU h6,⟨bx_apart (range_of h5) (by omega),?_,hk,hW.bel.trans (hk.below _ hW.bel.size (fun x e=>by omega))⟩⟩
 exact bx_set (C0:=#[.int .i64 0,.int .i64 0,.slice none 0 0]) (C:=#[.int .i64 0,.int .i64 0,.slice none 0 0]) h6 (by simp)
def UpOk (w w':World)(e:Ending)(G N:List (Nat×Nat))(A:Array Value):Prop:=∃ v u,e=.returned (.tuple #[.agg (updC v A u),.agg #[.int .i64 0,.int .i64 0,.slice none 0 0]])∧w'.ownsRow w.heap.size 96 2 v G.length (pcells G)∧w'.ownsRow w.heap.size 96 2 u N.length (pcells N)
section
attribute [local go_sem ↓] keptU_store keptU_alloc keptU_build keptU_load
set_option maxHeartbeats 4000000 in
theorem readup_none (a:Option Addr)(n c:Nat)(bs p q nl:List Nat)(w:World)(hn:bs.length=n)(hl:n≤5000)(hcap:n≤c)(h:BRd w a bs)(h1:cutP 2 bs=some (p,q))(h2:cutP 2 q=some ([],nl))(G:List (Nat×Nat))(h3:pfxB p=some G)(h4:pfxB nl=some []) :
  Calls Tryz.prog 26 #[.slice a n c] w fun e w'=>UpOk w w' e G [] zA7∧Below w.heap.size w w':=by
 have HW:Hid (UW w ((w.alloc (.cells zU 36)).alloc (.cells #[.int .i64 0,.int .i64 0,.slice none 0 0] 38))):=UW.made w
 obtain ⟨lp,lq⟩:=cutP_len h1
 obtain ⟨la,ln⟩:=cutP_len h2
 have hc1:=mcut_any a c 2 bs ((w.alloc (.cells zU 36)).alloc (.cells #[.int .i64 0,.int .i64 0,.slice none 0 0] 38)) (by omega) (by omega) (by omega) (by omega) (h.below HW.out.bel)
 rw [h1,hn] at hc1
 have HC1:=hide hc1
 have HC2:Hid (∀ m aq cq,q.length≤cq→BRd ((w.alloc (.cells zU 36)).alloc (.cells #[.int .i64 0,.int .i64 0,.slice none 0 0] 38)) aq q→Calls Tryz.prog 42 #[.slice aq q.length cq,.int .i64 2] (((w.alloc (.cells zU 36)).alloc (.cells #[.int .i64 0,.int .i64 0,.slice none 0 0] 38)).drewN m) fun e w'=>∃ ap2 cp2 aq2 cq2,e=.returned (.tuple #[.slice ap2 ([]:List Nat).length cp2,.slice aq2 nl.length cq2,.bool true])∧([]:List Nat).length≤cp2∧nl.length≤cq2∧Hid (BRd w' ap2 ([]:List Nat))∧Hid (BRd w' aq2 nl)∧Hid (Below ((w.alloc (.cells zU 36)).alloc (.cells #[.int .i64 0,.int .i64 0,.slice none 0 0] 38)).heap.size ((w.alloc (.cells zU 36)).alloc (.cells #[.int .i64 0,.int .i64 0,.slice none 0 0] 38)) w')):=fun m aq cq h5 h6=>by
  have:=mcut_any aq cq 2 q (((w.alloc (.cells zU 36)).alloc (.cells #[.int .i64 0,.int .i64 0,.slice none 0 0] 38)).drewN m) (by omega) (by omega) (by omega) h5 (h6.below ⟨rfl,rfl,rfl,Nat.le_refl _,fun _ _=>rfl⟩)
  rw [h2] at this
  refine this.mono ?_
  rintro e w' ⟨⟨ap2,cp2,aq2,cq2,e1,e2,e3,e4,e5⟩,m2,rfl⟩
  have hb:Below (((w.alloc (.cells zU 36)).alloc (.cells #[.int .i64 0,.int .i64 0,.slice none 0 0] 38)).drewN m).heap.size (((w.alloc (.cells zU 36)).alloc (.cells #[.int .i64 0,.int .i64 0,.slice none 0 0] 38)).drewN m) ((((w.alloc (.cells zU 36)).alloc (.cells #[.int .i64 0,.int .i64 0,.slice none 0 0] 38)).drewN m).drewN m2):=⟨rfl,rfl,rfl,Nat.le_refl _,fun _ _=>rfl⟩
  exact ⟨ap2,cp2,aq2,cq2,e1,e2,e3,e4.below hb,e5.below hb,⟨rfl,rfl,rfl,Nat.le_refl _,fun _ _=>rfl⟩⟩
 have KP1:Hid (∀ X ap cp,p.length≤cp→BRd X ap p→Calls Tryz.prog 45 #[.slice ap p.length cp] X fun e w'=>(∃ v,e=.returned (.tuple #[v,.bool true])∧w'.ownsRow X.heap.size 96 2 v G.length (pcells G))∧Below X.heap.size X w'):=fun X ap cp h5 h6=>by
  have:=pdecB_any ap cp p X (by omega) h5 h6
  rw [h3] at this
  exact this
 have KP2:Hid (∀ X ap cp,nl.length≤cp→BRd X ap nl→Calls Tryz.prog 45 #[.slice ap nl.length cp] X fun e w'=>(∃ v,e=.returned (.tuple #[v,.bool true])∧w'.ownsRow X.heap.size 96 2 v 0 [])∧Below X.heap.size X w'):=fun X ap cp h5 h6=>by
  have:=pdecB_any ap cp nl X (by omega) h5 h6
  rw [h4] at this
  exact this
 unfold CutIs at HC1
 unfold UpOk
 simp only at HC1
 clear h hc1 h1 h2 hn hl hcap lp lq la ln h3 h4
 generalize q.length=nq at *
 generalize p.length=np at *
 generalize nl.length=nn at *
 generalize hGl:G.length=gl at *
 clear hGl
 go_enter Tryz.func26,Tryz.ntmps26
 go_wp2_with (first | (refine keptU_alloc_intro _ (run_allocU w) ?_))
 refine HC1.out.mono ?_
 rintro e w1 ⟨⟨ap,cp,aq,cq,rfl,hp1,hq1,hp2,hq2⟩,m,rfl⟩
 have HP2:=hide hp2
 have HQ2:=hide hq2
 clear hp2 hq2
 go_wp2_with fail
 with_reducible refine (HC2.out m aq cq hq1 HQ2.out).mono ?_
 rintro e w2 ⟨ap2,cp2,aq2,cq2,rfl,hap,hnl,HA,HN,HB2⟩
 have HWX:=hide (HW.out.later HB2.out)
 go_wp2_with fail
 with_reducible refine (KP1.out w2 ap cp hp1 (HP2.out.below HB2.out)).mono ?_
 rintro e w3 ⟨⟨v,rfl,ho3⟩,hb3⟩
 obtain ⟨va,vc,rfl⟩:=own_slice ho3
 have HW3:=hide (HWX.out.later hb3)
 have HN3:=hide (HN.out.below hb3)
 have hz2:w.heap.size+2≤w2.heap.size:=(Array.getElem?_eq_some_iff.1 HWX.out.bN).1
 have hz3:w.heap.size+2≤w3.heap.size:=(Array.getElem?_eq_some_iff.1 HW3.out.bN).1
 have HO3:=hide (own_base ho3 hz2)
 clear hb3 ho3
 go_wp2_with fail
 with_reducible refine (KP2.out w3 aq2 cq2 hnl HN3.out).mono ?_
 rintro e w4 ⟨⟨v2,rfl,ho4⟩,hb4⟩
 obtain ⟨ua,uc,rfl⟩:=own_slice ho4
 have HW4:=hide (HW3.out.later hb4)
 have HO4:=hide (own_base ho4 hz3)
 have HO3':=hide (own_later HO3.out hb4)
 clear hb4 ho4
 have hUC:UC (updC (.slice va gl vc) zA7 (.slice ua 0 uc)):=UC.upd rfl rfl rfl (by simp [zA7,Value.oneCell'])
 obtain ⟨W5,hst5,hb5,bel5⟩:=store_upd w4 (updC (.slice va gl vc) zA7 (.slice ua 0 uc)) hUC
 have HW5:=hide (HW4.out.later bel5)
 obtain ⟨W6,hst6,hx6,hf6⟩:=upd_fin w W5 (updC (.slice va gl vc) zA7 (.slice ua 0 uc)) hUC HW5.out
 have HST5:=hide hst5
 have HST6:=hide hst6
 have HL5:=hide (run_loadU (range_of hb5) hUC)
 have HF6:=hide hf6
 have HOA:=hide (own_later HO3'.out bel5)
 have HOB:=hide (own_later HO4.out bel5)
 obtain ⟨_,r0,r1,r2,f0,f1,f2⟩:=hx6
 clear hst5 hst6 hb5 bel5 hf6
 go_wp2_with (first
  | (refine keptU_build2_intro 0 2 _ _ (.slice va gl vc) (.slice ua 0 uc) (.agg (updC (.slice va gl vc) zA7 (.slice ua 0 uc))) (by rfl) (by rfl) (run_build2U _ _ _ _ _ _ _) ?_)
  | (refine keptU_alloc_intro _ (run_allocU w4) ?_)
  | (refine keptU_store_intro _ _ (.pointer (some ⟨w4.heap.size,0,none⟩)) (.agg (updC (.slice va gl vc) zA7 (.slice ua 0 uc))) (by rfl) (by rfl) HST5.out ?_)
  | (refine keptU_load_intro _ (.pointer (some ⟨w4.heap.size,0,none⟩)) (.agg (updC (.slice va gl vc) zA7 (.slice ua 0 uc))) (by rfl) HL5.out ?_)
  | (refine keptU_store_intro _ _ (.pointer (some ⟨w.heap.size,0,none⟩)) (.agg (updC (.slice va gl vc) zA7 (.slice ua 0 uc))) (by rfl) (by rfl) HST6.out ?_))
 refine bodyPost_ret (v:=.tuple #[.agg (updC (.slice va gl vc) zA7 (.slice ua 0 uc)),.agg #[.int .i64 0,.int .i64 0,.slice none 0 0]]) (res_cells2 Tryz.results26 _ _ w.heap.size (w.heap.size+1) (updC (.slice va gl vc) zA7 (.slice ua 0 uc)) #[.int .i64 0,.int .i64 0,.slice none 0 0] rfl rfl HF6.out.rU HF6.out.rN Tryz.underlying36 rfl (by rw [infoU,hUC.1]) Tryz.underlying38 rfl infoN) rfl ⟨⟨_,_,rfl,?_,?_⟩,HF6.out.bel⟩
 ·exact own_low (own_keep HOA.out HF6.out.keep (fun x hx=>by omega)) (by omega)
 ·exact own_low (own_keep HOB.out HF6.out.keep (fun x hx=>by omega)) (by omega)
end
end Go.Proofs.YtogbjeaceboemaaGreatDoor
